/-
  Layer 27: the walk of NetworkTells.
-/
import Derived.Test.YtdkigbaodbkebaaDoorNtI
import Derived.Test.YtdkigbaodbkebaaDoorNtAc
import Derived.Test.YtdkigbaodbkebaaDoorNFrSp
namespace Go.Proofs.YtdkigbaodbkebaaDoor.Nt
open Go.RowKit
set_option maxRecDepth 100000
set_option linter.unusedSimpArgs false
set_option linter.unusedVariables false
theorem nt_sp (l : List UInt8) (A : Nat) (x : Nat → UInt8) (k : Nat) : sp l A x k = Crc.sp l A x k := by
  induction k with
  | zero => rfl
  | succ k ih => rw [sp, Crc.sp, ih]
theorem nt_chg (x : Nat → UInt8) (k : Nat) : chg x k = Crc.chg x k := by
  induction k with
  | zero => rfl
  | succ k ih => rw [chg, Crc.chg, ih]
/-- The one frame: as it was sent, or spoilt, so that it isn't opened. -/
def Tl (F : ByteArray) (cb : Bool) (f : Fr) : Prop := (cb = false ∧ f = ⟨1, 2, F, false⟩) ∨ (cb = true ∧ ∃ t, f = ⟨1, 2, t, true⟩ ∧ (Crc.op (bs t)).2 ≠ 0 ∧ t.size ≤ 2000000)
def FW (t : ByteArray) : ByteArray := ⟨(Crc.wr (bs t)).toArray⟩
theorem FW_bs (t : ByteArray) : bs (FW t) = Crc.wr (bs t) := rfl
theorem FW_size {t : ByteArray} (h : t.size ≤ 1000) : (FW t).size ≤ 2000000 ∧ 0 < (FW t).size := by
  have h1 : (FW t).size = (Crc.wr (bs t)).length := rfl
  have h2 := Crc.wr_le (bs t)
  have h3 := Crc.wr_len (bs t) (by rw [bs_length]; omega)
  rw [bs_length] at h2
  omega
theorem Tl.size {t : ByteArray} {cb : Bool} {f : Fr} (ht : t.size ≤ 1000) (h : Tl (FW t) cb f) : f.bytes.size ≤ 2000000 := by
  rcases h with ⟨_, rfl⟩ | ⟨_, u, rfl, _, h⟩
  · exact (FW_size ht).1
  · exact h
theorem Tl.step {t : ByteArray} {cb : Bool} {f : Fr} (ht : t.size ≤ 1000) (h : Tl (FW t) cb f) (a : Int) (v : Nat) : (spF f a v = (f, false)) ∨ (cb = false ∧ (spF f a v).2 = true ∧ Tl (FW t) true (spF f a v).1) := by
  rcases h with ⟨rfl, rfl⟩ | ⟨rfl, u, rfl, _, h⟩
  · obtain ⟨h1, h2⟩ := FW_size ht
    unfold spF
    rw [if_neg (by rintro (h | h); · cases h
                   · have h9 : (FW t).size = 0 := h
                     omega)]
    simp only
    by_cases hh : bs (spT (FW t) (plN a (FW t).size) v) = bs (FW t)
    · rw [if_pos hh]; exact .inl rfl
    · rw [if_neg hh]
      refine .inr ⟨by first | rfl | trivial, by first | rfl | trivial, .inr ⟨rfl, _, rfl, ?_, by rw [spT_size]; exact h1⟩⟩
      obtain ⟨A, hA⟩ : ∃ A, A = plN a (FW t).size := ⟨_, rfl⟩
      have hAl : A < (FW t).size := by rw [hA]; exact plN_lt a h2
      rw [← hA] at hh ⊢
      have e : bs (spT (FW t) A v) = Crc.sp (Crc.wr (bs t)) A (turns v) (min 4 ((FW t).size - A)) := by
        show sp (bs (FW t)) A (turns v) _ = _
        rw [nt_sp]; rfl
      rw [e]
      have hl : (Crc.wr (bs t)).length = (FW t).size := rfl
      refine Crc.spoilt (bs t) (by rw [bs_length]; omega) A (turns v) _ (by omega) (by rw [hl]; omega) ?_
      cases hc : Crc.chg (turns v) (min 4 ((FW t).size - A)) with
      | true => rfl
      | false =>
        exfalso
        apply hh
        rw [e, Crc.sp_same _ _ _ _ (Crc.chg_false hc)]
        rfl
  · unfold spF
    rw [if_pos (.inl rfl)]
    exact .inl rfl
theorem one_pl : plN 0 1 = 0 := by rfl
theorem one_spL (f : Fr) (a : Int) (v : Nat) : spL [f] 0 a v = [(spF f a v).1] ∧ spB [f] 0 a v = (spF f a v).2 := by
  constructor
  · rfl
  · unfold spB
    rw [show decide (0 < [f].length) = true from rfl, Bool.true_and]
    rfl
theorem beq_run (x y : Bool) (w : World) : (binOp .eql 4 (.bool x) (.bool y)).run Tryd.prog w = .ok (.bool (x == y)) w := by cases x <;> cases y <;> rfl
set_option maxHeartbeats 16000000 in
theorem tells_walk (a0 : ByteArray) (l : List Ac) (w : World) (v : Value) (hv : AcsIn w l v) (hst : Crc.Steps w) (h0 : 0 < w.heap.size) :
    Calls Tryd.prog 3 #[.string a0, v] w fun e w' => e = .returned (.bool true) ∧ Below w.heap.size w w' := by
  have HST := Lib.hid (fun (w' : World) (b : Below w.heap.size w w') => (⟨hst.of b h0, Nat.lt_of_lt_of_le h0 b.size⟩ : Crc.Steps w' ∧ 0 < w'.heap.size))
  obtain ⟨A, cap, eb, off, rfl, hA, hcells⟩ := hv
  obtain ⟨n, hn⟩ : ∃ n, n = l.length := ⟨_, rfl⟩
  have HC := Lib.hid (fun (k : Nat) (hk : k < l.length) (w' : World) (b : Below w.heap.size w w') => show w'.cell? ⟨eb, off + k * 5 + 2, none⟩ = some (.int .i64 l[k].at_) ∧ w'.cell? ⟨eb, off + k * 5 + 3, none⟩ = some (.int .u32 ((l[k].by_ : Nat) : Int)) from by
    obtain ⟨_, _, e2, e3, _⟩ := hcells k hk
    have hb := (hA (by omega)).2
    exact ⟨(b.cell (p := ⟨eb, off + k * 5 + 2, none⟩) hb).trans e2, (b.cell (p := ⟨eb, off + k * 5 + 3, none⟩) hb).trans e3⟩)
  have HA := Lib.hid (fun h => (hA h).1)
  rw [← hn]
  have HN0 := Lib.hid hn
  clear hA hcells hst h0 hn
  obtain ⟨t, ht⟩ : ∃ t, t = a0.extract 0 (min a0.size 1000) := ⟨_, rfl⟩
  have hts : t.size ≤ 1000 := by rw [ht, ByteArray.size_extract]; omega
  have HT := Lib.hid ht
  have HTS := Lib.hid hts
  clear ht hts
  go_enter Tryd.func3, Tryd.ntmps3
  go_wp2_with fail
  refine (speaks_any w).mono ?_
  rintro e w1 ⟨rfl, b1⟩
  have hnt := not_run true w1
  have HB1 := Lib.hid b1
  clear b1
  go_upto_region 4 with fail
  clear hnt
  rw [show a0.extract 0 (min (a0.size : Int) 1000).toNat = t from by rw [HT.out]; congr 1; omega]
  obtain ⟨V, hV⟩ : ∃ x, x = w1.alloc (.cells #[.slice none 0 0] 26) := ⟨_, rfl⟩
  obtain ⟨b, hb⟩ : ∃ x, x = w1.heap.size := ⟨_, rfl⟩
  have h0 := net_new w1
  rw [← hV, ← hb] at h0
  have HWB := Lib.hid (show w.heap.size ≤ b by rw [hb]; exact HB1.out.size)
  have HBV := Lib.hid (show Below w.heap.size w V by rw [hV]; exact HB1.out.alloc HB1.out.size _)
  have HBS := Lib.hid (show b ≤ V.heap.size by rw [hV, hb]; simp)
  have HN := Lib.hid h0
  have HV := Lib.hid hV
  have HB := Lib.hid hb
  clear hV hb h0
  go_upto_region 5 with fail
  rw [← HV.out, ← HB.out]
  go_wp2_with fail
  refine (Crc.wrap_any t V (HST.out _ HBV.out).1 (HST.out _ HBV.out).2).mono ?_
  rintro e w2 ⟨rfl, b2⟩
  have HN2 := Lib.hid (HN.out.below b2)
  have HB2 := Lib.hid (HBV.out.trans (b2.mono HBV.out.size))
  have HBS2 := Lib.hid (Nat.le_trans HBS.out b2.size)
  clear b2
  go_wp2_with fail
  refine (send_few HN2.out 1 2 (FW t) (by decide) HBS2.out).mono ?_
  rintro e w3 ⟨rfl, h3, s3⟩
  have HN3 := Lib.hid (show NetAt b b [⟨1, 2, FW t, false⟩] w3 from h3)
  have HB3 := Lib.hid (HB2.out.trans (s3.below.mono HWB.out))
  clear h3 s3
  go_wp2_with fail
  go_loopw [6, 7] (fun sc i wr => ∃ (k : Nat) (cb : Bool) (f : Fr), k ≤ n ∧ k ≤ 20 ∧ sc = .bool cb ∧ i = .int .i64 k ∧ Tl (FW t) cb f ∧ NetAt b b [f] wr ∧ Below w.heap.size w wr) (fun _ i _ => 20 - (intOf i).toNat)
  case atStart => exact ⟨0, false, _, by omega, by omega, rfl, rfl, .inl ⟨rfl, rfl⟩, HN3.out, HB3.out⟩
  case round =>
    obtain ⟨k, cb, f, hkn, hk20, rfl, rfl, htl, hnet, hbel⟩ := hrel
    have HTL := Lib.hid htl
    have HN := Lib.hid hnet
    have HBL := Lib.hid hbel
    clear htl hnet hbel
    by_cases hk : k < n ∧ k < 20
    · obtain ⟨hk1, hk2⟩ := hk
      have hi1 : (k : Int) < (n : Int) := by omega
      have hi2 : (k : Int) < 20 := by omega
      have HKL := Lib.hid (show k < l.length by rw [← HN0.out]; exact hk1)
      obtain ⟨ya, hya⟩ : ∃ x, x = (l[k]'HKL.out).at_ := ⟨_, rfl⟩
      obtain ⟨yv, hyv⟩ : ∃ x, x = (l[k]'HKL.out).by_ := ⟨_, rfl⟩
      have hAA := HA.out (by have := HKL.out; omega)
      subst hAA
      have HSS := Lib.hid (fun (w' : World) (b : Below w.heap.size w w') => show (fun w' : World => w'.cell? ⟨eb, off + k * 5 + 2, none⟩ = some (.int .i64 ya) ∧ w'.cell? ⟨eb, off + k * 5 + 3, none⟩ = some (.int .u32 (yv : Int))) w' from by
        have := HC.out k HKL.out w' b
        rw [← hya, ← hyv] at this
        exact this)
      have HSTP := Lib.hid (Tl.step HTS.out HTL.out ya yv)
      have HSZ := Lib.hid (Tl.size HTS.out HTL.out)
      have HBSR := Lib.hid (show b ≤ wr.heap.size from Nat.le_of_lt HN.out.lt.1)
      clear hya hyv
      go_upto_region 10 with fail
      have HDW := Lib.hid (Gn.below_drew (Below.refl wr.heap.size wr))
      refine wp_region_noPanic ?_
      refine wp_region_held_drew (S := (fun w' : World => w'.cell? ⟨eb, off + k * 5 + 2, none⟩ = some (.int .i64 ya) ∧ w'.cell? ⟨eb, off + k * 5 + 3, none⟩ = some (.int .u32 (yv : Int)))) (by kernel_rfl) ?_ (fun hHeld => ?_)
      · exact HSS.out _ (Gn.below_drew HBL.out)
      conv in Array.replicate _ false => change #[false, false, false, false, false, false, false, false, false, false, false]
      refine wpAnyH_take (i := 0) (v := ?_) rfl (by kernel_rfl) (by kernel_rfl) (by kernel_rfl) (fun _ _ _ h => h) (Or.inl ⟨by rfl, ?_⟩) (by assumption) ?_
      rotate_left
      · intro w hSw
        try dsimp only at hSw
        go_simp
        try with_reducible rfl
      try simp only [Act.put, List.getElem_toArray, List.getElem_cons_zero, List.getElem_cons_succ, List.setIfInBounds_toArray, List.set_cons_zero, List.set_cons_succ]
      refine wpAnyH_take (i := 1) (v := ?_) rfl (by kernel_rfl) (by kernel_rfl) (by kernel_rfl) (fun _ _ _ h => h) (Or.inl ⟨by rfl, ?_⟩) (by assumption) ?_
      rotate_left
      · intro w hSw
        try dsimp only at hSw
        go_simp
        try with_reducible rfl
      try simp only [Act.put, List.getElem_toArray, List.getElem_cons_zero, List.getElem_cons_succ, List.setIfInBounds_toArray, List.set_cons_zero, List.set_cons_succ]
      refine wpAnyH_take (i := 2) (v := ?_) rfl (by kernel_rfl) (by kernel_rfl) (by kernel_rfl) (fun _ _ _ h => h) (Or.inl ⟨by rfl, ?_⟩) (by assumption) ?_
      rotate_left
      · intro w hSw
        try dsimp only at hSw
        go_simp
        try with_reducible rfl
      try simp only [Act.put, List.getElem_toArray, List.getElem_cons_zero, List.getElem_cons_succ, List.setIfInBounds_toArray, List.set_cons_zero, List.set_cons_succ]
      refine wpAnyH_take (i := 3) (v := ?_) rfl (by kernel_rfl) (by kernel_rfl) (by kernel_rfl) (fun _ _ _ h => h) (Or.inl ⟨by rfl, ?_⟩) (by assumption) ?_
      rotate_left
      · intro w hSw
        try dsimp only at hSw
        go_simp
        try with_reducible rfl
      try simp only [Act.put, List.getElem_toArray, List.getElem_cons_zero, List.getElem_cons_succ, List.setIfInBounds_toArray, List.set_cons_zero, List.set_cons_succ]
      refine wpAnyH_take (i := 4) (v := ?_) rfl (by kernel_rfl) (by kernel_rfl) (by kernel_rfl) (fun _ _ _ h => h) (Or.inl ⟨by rfl, ?_⟩) (by assumption) ?_
      rotate_left
      · intro w hSw
        try dsimp only at hSw
        go_simp
        try with_reducible rfl
      try simp only [Act.put, List.getElem_toArray, List.getElem_cons_zero, List.getElem_cons_succ, List.setIfInBounds_toArray, List.set_cons_zero, List.set_cons_succ]
      refine wpAnyH_take (i := 5) (v := ?_) rfl (by kernel_rfl) (by kernel_rfl) (by kernel_rfl) (fun _ _ _ h => h) (Or.inl ⟨by rfl, ?_⟩) (by assumption) ?_
      rotate_left
      · intro w hSw
        try dsimp only at hSw
        go_simp
        try with_reducible rfl
      try simp only [Act.put, List.getElem_toArray, List.getElem_cons_zero, List.getElem_cons_succ, List.setIfInBounds_toArray, List.set_cons_zero, List.set_cons_succ]
      refine wpAnyH_take (i := 6) (v := ?_) rfl (by kernel_rfl) (by kernel_rfl) (by kernel_rfl) (fun _ _ _ h => h) (Or.inl ⟨by rfl, ?_⟩) (by assumption) ?_
      rotate_left
      · intro w hSw
        try dsimp only at hSw
        go_simp
        try with_reducible rfl
      try simp only [Act.put, List.getElem_toArray, List.getElem_cons_zero, List.getElem_cons_succ, List.setIfInBounds_toArray, List.set_cons_zero, List.set_cons_succ]
      refine wpAnyH_take (i := 7) (v := ?_) rfl (by kernel_rfl) (by kernel_rfl) (by kernel_rfl) (fun _ _ _ h => h) (Or.inl ⟨by rfl, ?_⟩) (by assumption) ?_
      rotate_left
      · intro w hSw
        try dsimp only at hSw
        go_simp
        try with_reducible rfl
      try simp only [Act.put, List.getElem_toArray, List.getElem_cons_zero, List.getElem_cons_succ, List.setIfInBounds_toArray, List.set_cons_zero, List.set_cons_succ]
      refine wpAnyH_take (i := 8) (v := ?_) rfl (by kernel_rfl) (by kernel_rfl) (by kernel_rfl) (fun _ _ _ h => h) (Or.inl ⟨by rfl, ?_⟩) (by assumption) ?_
      rotate_left
      · intro w hSw
        try dsimp only at hSw
        go_simp
        try with_reducible rfl
      try simp only [Act.put, List.getElem_toArray, List.getElem_cons_zero, List.getElem_cons_succ, List.setIfInBounds_toArray, List.set_cons_zero, List.set_cons_succ]
      refine wpAnyH_take (i := 9) (v := ?_) rfl (by kernel_rfl) (by kernel_rfl) (by kernel_rfl) (fun _ _ _ h => h) (Or.inl ⟨by rfl, ?_⟩) (by assumption) ?_
      rotate_left
      · intro w hSw
        try dsimp only at hSw
        go_simp
        try with_reducible rfl
      try simp only [Act.put, List.getElem_toArray, List.getElem_cons_zero, List.getElem_cons_succ, List.setIfInBounds_toArray, List.set_cons_zero, List.set_cons_succ]
      refine wpAnyH_ready (rs := [10]) (by kernel_rfl) (by simp) ?_
      refine AllReadyH.cons rfl (fun K hK => ?_) AllReadyH.nil
      go_simp
      go_at_call 7
      refine (spoil_any (HN.out.below HDW.out) 0 ya yv (by simp) (Nat.le_trans HBSR.out HDW.out.size) (by simpa using HSZ.out)).mono ?_
      rintro e w5 ⟨rfl, h5, s5⟩
      rw [(one_spL f ya yv).1] at h5
      rw [(one_spL f ya yv).2]
      have H5 := Lib.hid h5
      have HL5 := Lib.hid ((HBL.out.trans (HDW.out.mono HBL.out.size)).trans (s5.below.mono HWB.out))
      clear h5 s5
      refine hK.out _ _ (HSS.out _ HL5.out) (fun hHeld => ?_)
      clear hK K
      try simp only [Act.put, List.getElem_toArray, List.getElem_cons_zero, List.getElem_cons_succ, List.setIfInBounds_toArray, List.set_cons_zero, List.set_cons_succ]
      refine wpAnyH_done (by kernel_rfl) ?_ _
      refine NoPanic.normal ?_
      obtain ⟨w6, hw6⟩ : ∃ x, x = w5 := ⟨_, rfl⟩
      rw [← hw6] at H5 HL5 ⊢
      clear hw6
      rcases HSTP.out with hs | ⟨hcb, hs2, hs1⟩
      · rw [hs] at H5 ⊢
        have H6 := Lib.hid (show NetAt b b [f] w6 from H5.out)
        clear hs H5
        go_wp2_with fail
        go_roundw
        case rel => exact ⟨k + 1, cb, f, by omega, by omega, rfl, by go_num, HTL.out, H6.out, HL5.out⟩
        case measure => simp [intOf]; omega
      · obtain ⟨f9, hf9⟩ : ∃ x, x = (spF f ya yv).1 := ⟨_, rfl⟩
        rw [← hf9] at H5 hs1
        rw [hs2]
        subst hcb
        have HT9 := Lib.hid hs1
        clear hs2 hs1 hf9
        go_wp2_with fail
        go_roundw
        case rel => exact ⟨k + 1, true, f9, by omega, by omega, rfl, by go_num, HT9.out, H5.out, HL5.out⟩
        case measure => simp [intOf]; omega
    · rcases HTL.out with ⟨hcb, hff⟩ | ⟨hcb, u, hff, hno, hus⟩
      · subst hcb hff
        clear HTL
        by_cases hkn2 : k < n
        · have hi1 : (k : Int) < (n : Int) := by omega
          have hi2 : ¬ (k : Int) < 20 := by omega
          clear hk
          go_wp2_with fail
          refine (take_any HN.out 0 (by simp) (Nat.le_of_lt HN.out.lt.1)).mono ?_
          rintro e w4 ⟨rfl, h4, s4, -⟩
          rw [show AGF (atF [(⟨1, 2, FW t, false⟩ : Fr)] 0) = .agg #[.int .i64 1, .int .i64 2, .string (FW t), .bool false] from rfl, show decide (0 < [(⟨1, 2, FW t, false⟩ : Fr)].length) = true from rfl]
          have hb4 := HBL.out.trans (s4.below.mono HWB.out)
          obtain ⟨F, hF⟩ : ∃ F, F = FW t := ⟨_, rfl⟩
          rw [← hF]
          have hop : Crc.op (Oct.bs F) = (bs t, 0) := by rw [hF]; exact Crc.op_wr (bs t) (by rw [bs_length]; have := HTS.out; omega)
          have hfs : F.size ≤ 9223372036854775807 := by rw [hF]; have := (FW_size HTS.out).1; omega
          clear hF
          obtain ⟨w5, hw5⟩ : ∃ x, x = w4.alloc (.cells #[.int .i64 1, .int .i64 2, .string F, .bool false] 34) := ⟨_, rfl⟩
          obtain ⟨q, hq⟩ : ∃ x, x = w4.heap.size := ⟨_, rfl⟩
          have hx5 : w5.heap[q]? = some (.cells #[.int .i64 1, .int .i64 2, .string F, .bool false] 34 (0, 0)) := by rw [hw5, hq]; exact heap_alloc_new _ _
          have HB5 := Lib.hid (show Below w.heap.size w w5 by rw [hw5]; exact hb4.alloc hb4.size _)
          have HX5 := Lib.hid hx5
          have HW5 := Lib.hid hw5
          have HQ5 := Lib.hid hq
          have y2 := cell_of_row _ _ 2 _ _ (0, 0) hx5
          have HOP := Lib.hid (Crc.open_any F w5 hfs (HST.out _ HB5.out).1)
          rw [hop] at HOP
          unfold Crc.two at HOP
          simp only at HOP
          clear h4 s4 hb4 hx5 hw5 hq hop hfs
          go_upto_region 15 with fail
          rw [← HW5.out, ← HQ5.out]
          go_wp2_with fail
          refine HOP.out.mono ?_
          rintro e w6 ⟨rfl, b6⟩
          have HB6 := Lib.hid (HB5.out.trans (b6.mono HB5.out.size))
          have y3 := cell_of_row _ _ 3 _ _ (0, 0) ((b6.block _ (Gn.heap_lt HX5.out)).trans HX5.out)
          clear y2 b6
          have q1 := beq_run false false w6
          have q2 := beq_run true true w6
          have hnt := not_run false w6
          have hz : ((⟨(bs t).toArray⟩ : ByteArray).toList == t.toList) = true := by rw [toList_beq]; exact decide_eq_true rfl
          go_wp2_with fail
          go_ret
          exact ⟨rfl, HB6.out⟩
        · have hi1 : ¬ (k : Int) < (n : Int) := by omega
          clear hk
          go_wp2_with fail
          refine (take_any HN.out 0 (by simp) (Nat.le_of_lt HN.out.lt.1)).mono ?_
          rintro e w4 ⟨rfl, h4, s4, -⟩
          rw [show AGF (atF [(⟨1, 2, FW t, false⟩ : Fr)] 0) = .agg #[.int .i64 1, .int .i64 2, .string (FW t), .bool false] from rfl, show decide (0 < [(⟨1, 2, FW t, false⟩ : Fr)].length) = true from rfl]
          have hb4 := HBL.out.trans (s4.below.mono HWB.out)
          obtain ⟨F, hF⟩ : ∃ F, F = FW t := ⟨_, rfl⟩
          rw [← hF]
          have hop : Crc.op (Oct.bs F) = (bs t, 0) := by rw [hF]; exact Crc.op_wr (bs t) (by rw [bs_length]; have := HTS.out; omega)
          have hfs : F.size ≤ 9223372036854775807 := by rw [hF]; have := (FW_size HTS.out).1; omega
          clear hF
          obtain ⟨w5, hw5⟩ : ∃ x, x = w4.alloc (.cells #[.int .i64 1, .int .i64 2, .string F, .bool false] 34) := ⟨_, rfl⟩
          obtain ⟨q, hq⟩ : ∃ x, x = w4.heap.size := ⟨_, rfl⟩
          have hx5 : w5.heap[q]? = some (.cells #[.int .i64 1, .int .i64 2, .string F, .bool false] 34 (0, 0)) := by rw [hw5, hq]; exact heap_alloc_new _ _
          have HB5 := Lib.hid (show Below w.heap.size w w5 by rw [hw5]; exact hb4.alloc hb4.size _)
          have HX5 := Lib.hid hx5
          have HW5 := Lib.hid hw5
          have HQ5 := Lib.hid hq
          have y2 := cell_of_row _ _ 2 _ _ (0, 0) hx5
          have HOP := Lib.hid (Crc.open_any F w5 hfs (HST.out _ HB5.out).1)
          rw [hop] at HOP
          unfold Crc.two at HOP
          simp only at HOP
          clear h4 s4 hb4 hx5 hw5 hq hop hfs
          go_upto_region 15 with fail
          rw [← HW5.out, ← HQ5.out]
          go_wp2_with fail
          refine HOP.out.mono ?_
          rintro e w6 ⟨rfl, b6⟩
          have HB6 := Lib.hid (HB5.out.trans (b6.mono HB5.out.size))
          have y3 := cell_of_row _ _ 3 _ _ (0, 0) ((b6.block _ (Gn.heap_lt HX5.out)).trans HX5.out)
          clear y2 b6
          have q1 := beq_run false false w6
          have q2 := beq_run true true w6
          have hnt := not_run false w6
          have hz : ((⟨(bs t).toArray⟩ : ByteArray).toList == t.toList) = true := by rw [toList_beq]; exact decide_eq_true rfl
          go_wp2_with fail
          go_ret
          exact ⟨rfl, HB6.out⟩
      · subst hcb hff
        clear HTL
        have HNO := Lib.hid hno
        have HUS := Lib.hid hus
        clear hno hus
        by_cases hkn2 : k < n
        · have hi1 : (k : Int) < (n : Int) := by omega
          have hi2 : ¬ (k : Int) < 20 := by omega
          clear hk
          go_wp2_with fail
          refine (take_any HN.out 0 (by simp) (Nat.le_of_lt HN.out.lt.1)).mono ?_
          rintro e w4 ⟨rfl, h4, s4, -⟩
          rw [show AGF (atF [(⟨1, 2, u, true⟩ : Fr)] 0) = .agg #[.int .i64 1, .int .i64 2, .string (u), .bool true] from rfl, show decide (0 < [(⟨1, 2, u, true⟩ : Fr)].length) = true from rfl]
          have hb4 := HBL.out.trans (s4.below.mono HWB.out)
          obtain ⟨F, hF⟩ : ∃ F, F = u := ⟨_, rfl⟩
          obtain ⟨⟨rs, e4⟩, hop⟩ : ∃ r, Crc.op (Oct.bs F) = r := ⟨_, rfl⟩
          have he4 : e4 ≠ 0 := by
            have h9 := HNO.out
            rw [← hF] at h9
            rw [show bs F = Oct.bs F from rfl, hop] at h9
            exact h9
          have hfs : F.size ≤ 9223372036854775807 := by rw [hF]; have := HUS.out; omega
          rw [← hF]
          clear hF
          obtain ⟨w5, hw5⟩ : ∃ x, x = w4.alloc (.cells #[.int .i64 1, .int .i64 2, .string F, .bool true] 34) := ⟨_, rfl⟩
          obtain ⟨q, hq⟩ : ∃ x, x = w4.heap.size := ⟨_, rfl⟩
          have hx5 : w5.heap[q]? = some (.cells #[.int .i64 1, .int .i64 2, .string F, .bool true] 34 (0, 0)) := by rw [hw5, hq]; exact heap_alloc_new _ _
          have HB5 := Lib.hid (show Below w.heap.size w w5 by rw [hw5]; exact hb4.alloc hb4.size _)
          have HX5 := Lib.hid hx5
          have HW5 := Lib.hid hw5
          have HQ5 := Lib.hid hq
          have y2 := cell_of_row _ _ 2 _ _ (0, 0) hx5
          have HOP := Lib.hid (Crc.open_any F w5 hfs (HST.out _ HB5.out).1)
          rw [hop] at HOP
          unfold Crc.two at HOP
          simp only at HOP
          clear h4 s4 hb4 hx5 hw5 hq hop hfs
          go_upto_region 15 with fail
          rw [← HW5.out, ← HQ5.out]
          go_wp2_with fail
          refine HOP.out.mono ?_
          rintro e w6 ⟨rfl, b6⟩
          have HB6 := Lib.hid (HB5.out.trans (b6.mono HB5.out.size))
          have y3 := cell_of_row _ _ 3 _ _ (0, 0) ((b6.block _ (Gn.heap_lt HX5.out)).trans HX5.out)
          clear y2 b6
          have q1 := beq_run true true w6
          have q2 := beq_run false false w6
          have hnt := not_run true w6
          have t1 : ((e4 : Int) == 0) = false := by rw [beq_eq_false_iff_ne]; omega
          go_wp2_with fail
          go_ret
          exact ⟨rfl, HB6.out⟩
        · have hi1 : ¬ (k : Int) < (n : Int) := by omega
          clear hk
          go_wp2_with fail
          refine (take_any HN.out 0 (by simp) (Nat.le_of_lt HN.out.lt.1)).mono ?_
          rintro e w4 ⟨rfl, h4, s4, -⟩
          rw [show AGF (atF [(⟨1, 2, u, true⟩ : Fr)] 0) = .agg #[.int .i64 1, .int .i64 2, .string (u), .bool true] from rfl, show decide (0 < [(⟨1, 2, u, true⟩ : Fr)].length) = true from rfl]
          have hb4 := HBL.out.trans (s4.below.mono HWB.out)
          obtain ⟨F, hF⟩ : ∃ F, F = u := ⟨_, rfl⟩
          obtain ⟨⟨rs, e4⟩, hop⟩ : ∃ r, Crc.op (Oct.bs F) = r := ⟨_, rfl⟩
          have he4 : e4 ≠ 0 := by
            have h9 := HNO.out
            rw [← hF] at h9
            rw [show bs F = Oct.bs F from rfl, hop] at h9
            exact h9
          have hfs : F.size ≤ 9223372036854775807 := by rw [hF]; have := HUS.out; omega
          rw [← hF]
          clear hF
          obtain ⟨w5, hw5⟩ : ∃ x, x = w4.alloc (.cells #[.int .i64 1, .int .i64 2, .string F, .bool true] 34) := ⟨_, rfl⟩
          obtain ⟨q, hq⟩ : ∃ x, x = w4.heap.size := ⟨_, rfl⟩
          have hx5 : w5.heap[q]? = some (.cells #[.int .i64 1, .int .i64 2, .string F, .bool true] 34 (0, 0)) := by rw [hw5, hq]; exact heap_alloc_new _ _
          have HB5 := Lib.hid (show Below w.heap.size w w5 by rw [hw5]; exact hb4.alloc hb4.size _)
          have HX5 := Lib.hid hx5
          have HW5 := Lib.hid hw5
          have HQ5 := Lib.hid hq
          have y2 := cell_of_row _ _ 2 _ _ (0, 0) hx5
          have HOP := Lib.hid (Crc.open_any F w5 hfs (HST.out _ HB5.out).1)
          rw [hop] at HOP
          unfold Crc.two at HOP
          simp only at HOP
          clear h4 s4 hb4 hx5 hw5 hq hop hfs
          go_upto_region 15 with fail
          rw [← HW5.out, ← HQ5.out]
          go_wp2_with fail
          refine HOP.out.mono ?_
          rintro e w6 ⟨rfl, b6⟩
          have HB6 := Lib.hid (HB5.out.trans (b6.mono HB5.out.size))
          have y3 := cell_of_row _ _ 3 _ _ (0, 0) ((b6.block _ (Gn.heap_lt HX5.out)).trans HX5.out)
          clear y2 b6
          have q1 := beq_run true true w6
          have q2 := beq_run false false w6
          have hnt := not_run true w6
          have t1 : ((e4 : Int) == 0) = false := by rw [beq_eq_false_iff_ne]; omega
          go_wp2_with fail
          go_ret
          exact ⟨rfl, HB6.out⟩
theorem tells_any (w : World) (a0 : ByteArray) (_ : a0.size ≤ maxLen) (l : List Ac) (v : Value) (hv : AcsIn w l v) (_ : l.length ≤ maxLen) (_ : ∀ d ∈ l, ShortA d) (hst : Crc.Steps w) (h0 : 0 < w.heap.size) :
    Calls Tryd.prog 3 #[.string a0, v] w fun e w' => e = .returned (.bool true) ∧ Below w.heap.size w w' := tells_walk a0 l w v hv hst h0
end Go.Proofs.YtdkigbaodbkebaaDoor.Nt
