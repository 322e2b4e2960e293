/-
  The walks of the document's plain reader, on: a list of texts; two lists of numbers held against one another.
-/
import Derived.Test.YtjemofhppljcbaaOctRefIn2
namespace Go.Proofs.Ytjemofhppljcbaa.Oct
open Go.RowKit

theorem strs_stuck (r1 : Rest) (k N : Nat) (x : Nat) (hk : k ≤ N) (h : (rStrs r1 k).2 = .error x) : allStrs (rStrs r1 N) = ([], .error x) := by
  have hst := rStrs_stuck r1 k (N - k) x h
  rw [show k + (N - k) = N from by omega] at hst
  rcases h9 : rStrs r1 N with ⟨a9, b9⟩
  rw [h9] at hst
  simp only at hst
  rw [hst]; rfl

set_option maxRecDepth 100000 in
set_option maxHeartbeats 2000000 in
theorem ref_texts (g : Nat) (m : Int) (r : Rest) (w : World) (h : At 53 w g r) :
    Calls Try.prog 32 #[.pointer (some ⟨g, 0, none⟩), .int .i64 m] w (GivesStrs 53 w g (rTexts m r)) := by
  obtain ⟨i0, hi0, hz0, hz1, hz2⟩ := info_parts strinfo
  have hgw := h.lt
  have HL := Lib.hid (ref_size g m r w h)
  clear h
  have hq : rTexts m r = allStrs (rStrs (rLen (min m 65536) r).2 (rLen (min m 65536) r).1.toNat) := rfl
  have h0 := rLen_nonneg (min m 65536) r
  have h1 := rLen_le (min m 65536) r
  have hmin : min m 65536 ≤ 65536 := Int.min_le_right _ _
  generalize rLen (min m 65536) r = q at *
  obtain ⟨n0, r1⟩ := q
  simp only at hq h0 h1
  obtain ⟨N, rfl⟩ := Int.eq_ofNat_of_zero_le h0
  rw [Int.toNat_natCast] at hq
  have hN : N ≤ 65536 := by omega
  rw [hq]
  clear hq h0 h1 hmin
  go_enter Try.func32, Try.ntmps32
  go_wp2_with fail
  refine HL.out.mono ?_
  rintro e w1 ⟨rfl, k1, k2⟩
  have K1 := Lib.hid k1
  have K2 := Lib.hid k2
  clear k1 k2
  go_wp2_with fail
  go_loopw [6, 7] (fun v i wr => ∃ (k : Nat) (A : Option Addr) (cap : Nat), k ≤ N ∧ i = .int .i64 k ∧ v = .slice A k cap ∧ wr.ownsRow w.heap.size 9 1 (.slice A k cap) k ((rStrs r1 k).1.map strV) ∧ At 53 wr g (rStrs r1 k).2 ∧ Sep g w.heap.size w wr) (fun _ i _ => N - (intOf i).toNat)
  case atStart => exact ⟨0, none, 0, by omega, rfl, rfl, World.ownsRow_nil _ _ _ _, K1.out, K2.out⟩
  case round =>
    obtain ⟨k, A, cap, hk, rfl, rfl, hown, hat, hsep⟩ := hrel
    have HO := Lib.hid hown
    have HA := Lib.hid hat
    have HS := Lib.hid hsep
    have hwr := hsep.size
    clear hown hat hsep
    rcases h9 : (rStrs r1 k).2 with x | l
    · have hA9 := HA.out
      rw [h9] at hA9
      have HF := Lib.hid (strs_stuck r1 k N x hk h9)
      have HA9 := Lib.hid hA9
      obtain ⟨z0, z1, t, t3⟩ := hA9
      have c1 : wr.cell? ⟨g, 1, none⟩ = some (.int .i64 (x : Int)) := cell_of_row wr g 1 _ _ (0, 0) t3
      have hx : ((x : Int) == 0) = false := by rw [beq_eq_false_iff_ne]; omega
      clear t3 h9
      by_cases hlt : (k : Int) < N
      all_goals
        go_wp2
        go_ret
        rw [HF.out]
        exact ⟨none, 0, rfl, World.ownsRow_nil _ _ _ _, HA9.out, HS.out⟩
    · have hA9 := HA.out
      rw [h9] at hA9
      have HA9 := Lib.hid hA9
      have H9 := Lib.hid h9
      obtain ⟨t, t1, t2, t3⟩ := hA9
      have c1 : wr.cell? ⟨g, 1, none⟩ = some (.int .i64 0) := cell_of_row wr g 1 _ _ (0, 0) t3
      clear t1 t2 t3 h9
      by_cases hlt : (k : Int) < N
      · have HI := Lib.hid (ref_text g _ _ HA.out)
        rcases hq : rText (rStrs r1 k).2 with ⟨z, r2⟩
        rw [hq] at HI
        have hs1 : rStrs r1 (k + 1) = ((rStrs r1 k).1 ++ [z], r2) := by rw [rStrs, hq]
        have HS1 := Lib.hid hs1
        clear hq hs1
        go_wp2_with fail
        refine HI.out.mono ?_
        rintro e w2 ⟨rfl, k3, k4⟩
        obtain ⟨tt, xx, hcg⟩ := At.cells HA.out
        have HO2 := Lib.hid (k4.own HO.out hcg (by decide))
        have HS2 := Lib.hid (HS.out.trans ⟨k4.os, k4.tape, k4.output, k4.size, fun i hi hg => k4.block i (Nat.lt_of_lt_of_le hi hwr) hg⟩)
        have hw2 := Nat.le_trans hwr k4.size
        have HA2 := Lib.hid k3
        clear k3 k4 hcg
        go_wp2_with ((at_builtin; refine wpList_append_own _ rfl _ _ 37 rfl w.heap.size 9 i0 (.string ByteArray.empty) 1 16 Try.underlying37 hi0 hz0 hz1 hz2 rfl (by decide) _ _ _ rfl (HO2.out.alloc _) ⟨w2.heap.size, 0, none⟩ 1 1 [strV z] rfl rfl ?c1 ?c2 ?c3 ?c4 ?c5 ?_))
        case c1 => exact cell_one_new _ _ _
        case c2 => simp [Value.oneCell', strV]
        case c3 => unfold maxLen; omega
        case c4 => omega
        case c5 => simp; omega
        intro v' w4 hown4 hgrow4 _
        have HO4 := Lib.hid hown4
        have HG4 := Lib.hid hgrow4
        clear hown4 hgrow4
        go_wp2
        obtain ⟨A', cap', hv⟩ := slice_of HO4.out
        have hfin : (∃ (k' : Nat) (A : Option Addr) (cap : Nat), k' ≤ N ∧ Value.int .i64 ((k : Int) + 1) = .int .i64 k' ∧ v' = .slice A k' cap ∧ w4.ownsRow w.heap.size 9 1 (.slice A k' cap) k' ((rStrs r1 k').1.map strV) ∧ At 53 w4 g (rStrs r1 k').2 ∧ Sep g w.heap.size w w4) := by
          refine ⟨k + 1, A', cap', by omega, by go_num, hv, ?_, ?_, ?_⟩
          · rw [HS1.out, List.map_append, ← hv]; exact HO4.out
          · rw [HS1.out]
            exact (HA2.out.below ((Below.refl _ _).alloc (Nat.le_refl _) _)).grown HG4.out (HO2.out.alloc _) (by decide)
          · exact (HS2.out.alloc hw2 _).grown HG4.out (by simp; omega) (fun r hr => by
              rcases HO2.out.2 with ⟨h1, _⟩ | ⟨r', cp, cur, h1, h2, _⟩
              · rw [h1] at hr; simp [Value.ownBlock] at hr
              · rw [h1] at hr; simp [Value.ownBlock] at hr; omega)
        exact ⟨hfin, by simp [intOf]; omega⟩
      · have hkN : k = N := by omega
        subst hkN
        go_wp2
        go_ret
        have hlen := rStrs_len r1 k
        have h9 := H9.out
        have HO9 := HO.out
        have HA8 := HA9.out
        rcases h8 : rStrs r1 k with ⟨a9, b9⟩
        rw [h8] at h9 hlen HO9
        simp only at h9 hlen HO9
        subst h9
        refine ⟨A, cap, ?_, ?_, HA8, HS.out⟩
        · show _ = Ending.returned (.slice A a9.length cap)
          rw [hlen]; rfl
        · show World.ownsRow _ _ _ _ (.slice A a9.length cap) a9.length _
          rw [hlen]; exact HO9


/-- What a row of numbers, of texts, reads as. -/
theorem own_nums {w : World} {base : Nat} {A : Option Addr} {n cap : Nat} {zs : List Int} (h : w.ownsRow base 3 1 (.slice A n cap) n (zs.map (Value.int .i64))) (hl : zs.length = n) : Nums w A n zs := by
  refine ⟨hl, fun h0 => ?_⟩
  rcases h.2 with ⟨_, h5⟩ | ⟨r, cp, cur, hv, hr, hh, _⟩
  · omega
  · injection hv with hv hv1 hv2
    subst hv
    refine ⟨r, 0, rfl, heap_lt hh, fun i hi => ?_⟩
    have := h.cells (g := r) rfl i (.int .i64 (zs.getD i 0)) (by
      rw [List.getElem?_map, List.getElem?_eq_getElem (by omega)]
      simp [List.getD, List.getElem?_eq_getElem (show i < zs.length by omega)])
    have e : (⟨r, 0, none⟩ : Addr).add i = ⟨r, 0 + i, none⟩ := by unfold Addr.add; split <;> simp_all
    rwa [e] at this
theorem own_strs {w : World} {base : Nat} {A : Option Addr} {n cap : Nat} {zs : List (List UInt8)} (h : w.ownsRow base 9 1 (.slice A n cap) n (zs.map strV)) (hl : zs.length = n) : Strs w A n (zs.map fun l => ⟨l.toArray⟩) := by
  refine ⟨by simpa using hl, fun h0 => ?_⟩
  rcases h.2 with ⟨_, h5⟩ | ⟨r, cp, cur, hv, hr, hh, _⟩
  · omega
  · injection hv with hv hv1 hv2
    subst hv
    refine ⟨r, 0, rfl, heap_lt hh, fun i hi => ?_⟩
    have := h.cells (g := r) rfl i (.string ((zs.map fun l => (⟨l.toArray⟩ : ByteArray)).getD i ByteArray.empty)) (by
      rw [List.getElem?_map, List.getElem?_eq_getElem (by omega)]
      simp [List.getD, List.getElem?_map, List.getElem?_eq_getElem (show i < zs.length by omega), strV])
    have e : (⟨r, 0, none⟩ : Addr).add i = ⟨r, 0 + i, none⟩ := by unfold Addr.add; split <;> simp_all
    rwa [e] at this

theorem Nums.drew {w w' : World} {a : Option Addr} {len : Nat} {zs : List Int} (h : Nums w a len zs) (hd : Drew w w') : Nums w' a len zs := h.below (hd.below _)

set_option maxHeartbeats 1000000 in
theorem back2_same (A B : Option Addr) (n ca cb : Nat) (zs : List Int) (w : World) (hA : Nums w A n zs) (hB : Nums w B n zs) (hn : n ≤ 65536) :
    Calls Try.prog 28 #[.slice A n ca, .slice B n cb] w fun e w' => e = .returned (.bool true) ∧ Drew w w' := by
  have HA := Lib.hid hA
  have HB := Lib.hid hB
  clear hA hB
  go_enter Try.func28, Try.ntmps28
  go_wp2
  go_loopw [5] (fun i wr => ∃ k : Nat, k ≤ n ∧ i = .int .i64 k ∧ Drew w wr) (fun i _ => n - (intOf i).toNat)
  case atStart => exact ⟨0, by omega, rfl, 0, rfl⟩
  case round =>
    obtain ⟨k, hk, rfl, hd⟩ := hrel
    have HD := Lib.hid hd
    clear hd
    by_cases hlt : (k : Int) < n
    · obtain ⟨b, off, rfl, hb, hcell⟩ := (HA.out.drew HD.out).2 (by omega)
      obtain ⟨b', off', rfl, hb', hcell'⟩ := (HB.out.drew HD.out).2 (by omega)
      have c1 := hcell k (by omega)
      have c2 := hcell' k (by omega)
      obtain ⟨z, hz⟩ : ∃ z, z = zs.getD k 0 := ⟨_, rfl⟩
      rw [← hz] at c1 c2
      clear hz hcell hcell'
      go_wp2
      go_quiet (fail)
      go_wp2
      obtain ⟨nn, hnn⟩ := HD.out
      refine ⟨⟨k + 1, by omega, by go_num, ?_⟩, by simp [intOf]; omega⟩
      rw [hnn]
      exact ⟨_, by rw [World.drewN_drewN]⟩
    · go_wp2
      go_ret
      exact ⟨rfl, HD.out⟩

end Go.Proofs.Ytjemofhppljcbaa.Oct
