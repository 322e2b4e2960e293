/-
  Layer 18: the document's In.
-/
import Derived.Test.YtbkfbejbloclgaaRlIn2
import Derived.Test.YtbkfbejbloclgaaOctRefGet
namespace Go.Proofs.Ytbkfbejbloclgaa.Oct
open Go.RowKit
set_option maxRecDepth 100000
set_option maxHeartbeats 400000 in
theorem ref_int (g : Nat) (r : Rest) (w : World) (h : At 85 w g r) :
    Calls Try.prog 44 #[.pointer (some ⟨g, 0, none⟩)] w (Gives 85 w g (.int .i64 (rInt r).1) (rInt r).2) := by
  cases r with
  | error x =>
    have HA := Lib.hid h
    obtain ⟨h0, h1, t, h2⟩ := h
    have c1 : w.cell? ⟨g, 1, none⟩ = some (.int .i64 (x : Int)) := cell_of_row w g 1 _ _ (0, 0) h2
    have hx : ((x : Int) == 0) = false := by rw [beq_eq_false_iff_ne]; omega
    clear h2
    go_enter Try.func44, Try.ntmps44
    go_wp2
    go_ret
    exact ⟨rfl, HA.out, Sep.refl _ _ _⟩
  | ok l =>
    obtain ⟨t, h1, h2, h3⟩ := h
    have c0 : w.cell? ⟨g, 0, none⟩ = some (.string t) := cell_of_row w g 0 _ _ (0, 0) h3
    have c1 : w.cell? ⟨g, 1, none⟩ = some (.int .i64 0) := cell_of_row w g 1 _ _ (0, 0) h3
    have hgw := heap_lt h3
    have hle := gb_err_le l
    have htk := gb_take_le l
    have hts : t.size = l.length := by rw [← h1]; rfl
    have hget : ∀ W : World, Calls Try.prog 72 #[.string t] W fun e w' => e = .returned (.tuple #[.int .i64 (gb l).1, .int .i64 (gb l).2.1, .int .i64 (gb l).2.2]) ∧ Below W.heap.size W w' := fun W => by
      have := rget_any t W h2
      rw [h1, three] at this
      exact this
    have H3 := Lib.hid h3
    have H1 := Lib.hid h1
    by_cases hz : (gb l).2.2 = 0
    · have hfin : Gives 85 w g (.int .i64 (rInt (.ok l)).1) (rInt (.ok l)).2 = Gives 85 w g (.int .i64 (gb l).1) (.ok (l.drop (gb l).2.1)) := by simp only [rInt]; rw [if_pos hz]
      rw [hfin]
      have htk2 := htk hz
      rw [hz] at hget
      generalize gb l = q at *
      have hq : (q.2.1 : Int) ≤ t.size := by omega
      obtain ⟨b, hb⟩ : ∃ b, b = t.extract q.2.1 t.size := ⟨_, rfl⟩
      have s2 : ∀ W : World, (Instr.slice 9 (.string t) (some (.int .i64 (q.2.1 : Int))) none none).run Try.prog W = .ok (.string b) W := by
        intro W
        rw [run_slice_string_l W 9 t Try.underlying9 .i64 _ (by omega) (by omega), hb]
        rfl
      have e2 : bs b = l.drop q.2.1 := by rw [hb, ← h1]; exact Lib.extract_to_end t q.2.1
      have e3 : b.size ≤ 9223372036854775807 := by
        have : b.size = (l.drop q.2.1).length := by rw [← e2]; rfl
        rw [List.length_drop] at this
        omega
      have HG := Lib.hid hget
      have E2 := Lib.hid e2
      clear h1 h3 hget hz hle htk hfin hb e2 hts
      go_enter Try.func44, Try.ntmps44
      go_wp2_with fail
      refine (HG.out _).mono ?_
      rintro e w2 ⟨rfl, k1⟩
      have h3' := (k1.block g hgw).trans H3.out
      have d0 : w2.cell? ⟨g, 0, none⟩ = some (.string t) := cell_of_row w2 g 0 _ _ (0, 0) h3'
      have f0 : w2.frozen? ⟨g, 0, none⟩ = false := by simp [World.frozen?, h3']
      have H3' := Lib.hid h3'
      clear h3'
      go_wp2
      go_ret
      exact ⟨rfl, ⟨b, E2.out, e3, heap_set H3'.out 0 _⟩, Sep.setCell (p := ⟨g, 0, none⟩) (Sep.of_below k1) (.inl rfl) _⟩
    · have hfin : Gives 85 w g (.int .i64 (rInt (.ok l)).1) (rInt (.ok l)).2 = Gives 85 w g (.int .i64 0) (.error (gb l).2.2) := by simp only [rInt]; rw [if_neg hz]
      rw [hfin]
      have hne : (((gb l).2.2 : Int) == 0) = false := by rw [beq_eq_false_iff_ne]; omega
      have HX : Hid ((gb l).2.2 ≠ 0 ∧ (gb l).2.2 ≤ 100) := ⟨hz, by omega⟩
      generalize gb l = q at *
      have HG := Lib.hid hget
      clear h1 h3 hget hz hle htk hfin hts
      go_enter Try.func44, Try.ntmps44
      go_wp2_with fail
      refine (HG.out _).mono ?_
      rintro e w2 ⟨rfl, k1⟩
      have h3' := (k1.block g hgw).trans H3.out
      have d1 : w2.cell? ⟨g, 1, none⟩ = some (.int .i64 0) := cell_of_row w2 g 1 _ _ (0, 0) h3'
      have f1 : w2.frozen? ⟨g, 1, none⟩ = false := by simp [World.frozen?, h3']
      have H3' := Lib.hid h3'
      clear h3'
      go_wp2
      go_ret
      exact ⟨rfl, ⟨HX.out.1, HX.out.2, t, heap_set H3'.out 1 _⟩, Sep.setCell (p := ⟨g, 1, none⟩) (Sep.of_below k1) (.inl rfl) _⟩


set_option maxHeartbeats 1000000 in
theorem ref_size (g : Nat) (m : Int) (r : Rest) (w : World) (h : At 85 w g r) :
    Calls Try.prog 73 #[.pointer (some ⟨g, 0, none⟩), .int .i64 m] w (Gives 85 w g (.int .i64 (rLen (min m 65536) r).1) (rLen (min m 65536) r).2) := by
  have HI := Lib.hid (ref_int g r w h)
  clear h
  rcases hr : rInt r with ⟨n, r2⟩
  rw [hr] at HI
  cases r2 with
  | error x =>
    have hfin : rLen (min m 65536) r = (0, .error x) := by rw [rLen, hr]
    rw [hfin]
    clear hfin hr
    go_enter Try.func73, Try.ntmps73
    go_wp2_with fail
    refine HI.out.mono ?_
    rintro e w1 ⟨rfl, k1, k2⟩
    have HA := Lib.hid k1
    obtain ⟨h0, h1, t, h2⟩ := k1
    have c1 : w1.cell? ⟨g, 1, none⟩ = some (.int .i64 (x : Int)) := cell_of_row w1 g 1 _ _ (0, 0) h2
    have hx : ((x : Int) == 0) = false := by rw [beq_eq_false_iff_ne]; omega
    clear h2
    go_wp2
    go_ret
    exact ⟨rfl, HA.out, k2⟩
  | ok l =>
    by_cases h1 : n < 0
    · have hfin : rLen (min m 65536) r = (0, .error 2) := by rw [rLen, hr]; exact if_pos h1
      rw [hfin]
      clear hfin hr
      go_enter Try.func73, Try.ntmps73
      go_wp2_with fail
      refine HI.out.mono ?_
      rintro e w1 ⟨rfl, k1, k2⟩
      obtain ⟨t, t1, t2, t3⟩ := k1
      have c1 : w1.cell? ⟨g, 1, none⟩ = some (.int .i64 0) := cell_of_row w1 g 1 _ _ (0, 0) t3
      have f1 : w1.frozen? ⟨g, 1, none⟩ = false := by simp [World.frozen?, t3]
      have H3 := Lib.hid t3
      clear t1 t3
      go_wp2
      go_ret
      exact ⟨rfl, ⟨by omega, by omega, t, heap_set H3.out 1 _⟩, k2.setCell (p := ⟨g, 1, none⟩) (.inl rfl) _⟩
    · by_cases h2 : min m 65536 < n
      · have hfin : rLen (min m 65536) r = (0, .error 6) := by rw [rLen, hr]; show (if n < 0 then _ else _) = _; rw [if_neg h1, if_pos h2]
        rw [hfin]
        have h3 : m < n ∨ (n ≤ m ∧ 65536 < n) := by omega
        clear hfin hr h2
        rcases h3 with h3 | ⟨h3, h4⟩
        all_goals
          go_enter Try.func73, Try.ntmps73
          go_wp2_with fail
          refine HI.out.mono ?_
          rintro e w1 ⟨rfl, k1, k2⟩
          obtain ⟨t, t1, t2, t3⟩ := k1
          have c1 : w1.cell? ⟨g, 1, none⟩ = some (.int .i64 0) := cell_of_row w1 g 1 _ _ (0, 0) t3
          have f1 : w1.frozen? ⟨g, 1, none⟩ = false := by simp [World.frozen?, t3]
          have H3 := Lib.hid t3
          clear t1 t3
          go_wp2
          go_ret
          exact ⟨rfl, ⟨by omega, by omega, t, heap_set H3.out 1 _⟩, k2.setCell (p := ⟨g, 1, none⟩) (.inl rfl) _⟩
      · have hfin : rLen (min m 65536) r = (n, .ok l) := by rw [rLen, hr]; show (if n < 0 then _ else _) = _; rw [if_neg h1, if_neg h2]
        rw [hfin]
        have h3 : n ≤ m := by omega
        have h4 : n ≤ 65536 := by omega
        clear hfin hr h2
        go_enter Try.func73, Try.ntmps73
        go_wp2_with fail
        refine HI.out.mono ?_
        rintro e w1 ⟨rfl, k1, k2⟩
        have HA := Lib.hid k1
        obtain ⟨t, t1, t2, t3⟩ := k1
        have c1 : w1.cell? ⟨g, 1, none⟩ = some (.int .i64 0) := cell_of_row w1 g 1 _ _ (0, 0) t3
        clear t1 t3
        go_wp2
        go_ret
        exact ⟨rfl, HA.out, k2⟩


set_option maxHeartbeats 1000000 in
theorem ref_text (g : Nat) (r : Rest) (w : World) (h : At 85 w g r) :
    Calls Try.prog 45 #[.pointer (some ⟨g, 0, none⟩)] w (Gives 85 w g (.string ⟨(rText r).1.toArray⟩) (rText r).2) := by
  have HI := Lib.hid (ref_size g 65536 r w h)
  have hmin : min (65536 : Int) 65536 = 65536 := by omega
  rw [hmin] at HI
  have hn0 := rLen_nonneg 65536 r
  clear h hmin
  rcases hr : rLen 65536 r with ⟨n, r2⟩
  rw [hr] at HI hn0
  simp only at hn0
  cases r2 with
  | error x =>
    have hfin : rText r = ([], .error x) := by rw [rText, hr]
    rw [hfin]
    clear hfin hr
    go_enter Try.func45, Try.ntmps45
    go_wp2_with fail
    refine HI.out.mono ?_
    rintro e w1 ⟨rfl, k1, k2⟩
    have HA := Lib.hid k1
    obtain ⟨h0, h1, t, h2⟩ := k1
    have c1 : w1.cell? ⟨g, 1, none⟩ = some (.int .i64 (x : Int)) := cell_of_row w1 g 1 _ _ (0, 0) h2
    have hx : ((x : Int) == 0) = false := by rw [beq_eq_false_iff_ne]; omega
    clear h2
    go_wp2
    go_ret
    exact ⟨rfl, HA.out, k2⟩
  | ok l =>
    by_cases h1 : (l.length : Int) < n
    · have hfin : rText r = ([], .error 3) := by rw [rText, hr]; exact if_pos h1
      rw [hfin]
      clear hfin hr
      go_enter Try.func45, Try.ntmps45
      go_wp2_with fail
      refine HI.out.mono ?_
      rintro e w1 ⟨rfl, k1, k2⟩
      obtain ⟨t, t1, t2, t3⟩ := k1
      have hts : (t.size : Int) < n := by have : t.size = l.length := by rw [← t1]; rfl
                                          omega
      have c0 : w1.cell? ⟨g, 0, none⟩ = some (.string t) := cell_of_row w1 g 0 _ _ (0, 0) t3
      have c1 : w1.cell? ⟨g, 1, none⟩ = some (.int .i64 0) := cell_of_row w1 g 1 _ _ (0, 0) t3
      have f1 : w1.frozen? ⟨g, 1, none⟩ = false := by simp [World.frozen?, t3]
      have H3 := Lib.hid t3
      clear t1 t3
      go_wp2
      go_ret
      exact ⟨rfl, ⟨by omega, by omega, t, heap_set H3.out 1 _⟩, k2.setCell (p := ⟨g, 1, none⟩) (.inl rfl) _⟩
    · have hfin : rText r = (l.take n.toNat, .ok (l.drop n.toNat)) := by rw [rText, hr]; exact if_neg h1
      rw [hfin]
      obtain ⟨m, rfl⟩ := Int.eq_ofNat_of_zero_le hn0
      rw [Int.toNat_natCast]
      clear hfin hr
      obtain ⟨q, hq⟩ : ∃ q : ByteArray, q = ⟨(l.take m).toArray⟩ := ⟨_, rfl⟩
      have HQ := Lib.hid hq
      rw [← hq]
      clear hq
      go_enter Try.func45, Try.ntmps45
      go_wp2_with fail
      refine HI.out.mono ?_
      rintro e w1 ⟨rfl, k1, k2⟩
      obtain ⟨t, t1, t2, t3⟩ := k1
      have htl : t.size = l.length := by rw [← t1]; rfl
      have hts : (m : Int) ≤ (t.size : Int) := by omega
      have c0 : w1.cell? ⟨g, 0, none⟩ = some (.string t) := cell_of_row w1 g 0 _ _ (0, 0) t3
      have c1 : w1.cell? ⟨g, 1, none⟩ = some (.int .i64 0) := cell_of_row w1 g 1 _ _ (0, 0) t3
      have f0 : w1.frozen? ⟨g, 0, none⟩ = false := by simp [World.frozen?, t3]
      obtain ⟨b, hb⟩ : ∃ b, b = t.extract m t.size := ⟨_, rfl⟩
      have s1 : ∀ W : World, (Instr.slice 9 (.string t) none (some (.int .i64 (m : Int))) none).run Try.prog W = .ok (.string q) W := by
        intro W
        rw [run_slice_string_h W 9 t Try.underlying9 .i64 _ (by omega) (by omega), HQ.out]
        have : bs (t.extract 0 m) = l.take m := by rw [← t1]; show (t.extract 0 m).data.toList = _; rw [Lib.extract_data]; rfl
        rw [← this]; rfl
      have s2 : ∀ W : World, (Instr.slice 9 (.string t) (some (.int .i64 (m : Int))) none none).run Try.prog W = .ok (.string b) W := by
        intro W
        rw [run_slice_string_l W 9 t Try.underlying9 .i64 _ (by omega) (by omega), hb]
        rfl
      have e2 : bs b = l.drop m := by rw [hb, ← t1]; exact Lib.extract_to_end t m
      have e3 : b.size ≤ 9223372036854775807 := by
        have : b.size = (l.drop m).length := by rw [← e2]; rfl
        rw [List.length_drop] at this
        omega
      have H3 := Lib.hid t3
      have E2 := Lib.hid e2
      clear t1 t3 hb e2 htl
      go_wp2
      go_ret
      exact ⟨rfl, ⟨b, E2.out, e3, heap_set H3.out 0 _⟩, k2.setCell (p := ⟨g, 0, none⟩) (.inl rfl) _⟩



theorem strs_stuck (r1 : Rest) (k N : Nat) (x : Nat) (hk : k ≤ N) (h : (rStrs r1 k).2 = .error x) : allStrs (rStrs r1 N) = ([], .error x) := by
  have hst := rStrs_stuck r1 k (N - k) x h
  rw [show k + (N - k) = N from by omega] at hst
  rcases h9 : rStrs r1 N with ⟨a9, b9⟩
  rw [h9] at hst
  simp only at hst
  rw [hst]; rfl


set_option maxRecDepth 100000 in
set_option maxHeartbeats 2000000 in
theorem ref_texts (g : Nat) (m : Int) (r : Rest) (w : World) (h : At 85 w g r) :
    Calls Try.prog 46 #[.pointer (some ⟨g, 0, none⟩), .int .i64 m] w (GivesStrs 85 w g (rTexts m r)) := by
  obtain ⟨i0, hi0, hz0, hz1, hz2⟩ := info_parts strinfo
  have hgw := h.lt
  have HL := Lib.hid (ref_size g m r w h)
  clear h
  have hq : rTexts m r = allStrs (rStrs (rLen (min m 65536) r).2 (rLen (min m 65536) r).1.toNat) := rfl
  have h0 := rLen_nonneg (min m 65536) r
  have h1 := rLen_le (min m 65536) r
  have hmin : min m 65536 ≤ 65536 := Int.min_le_right _ _
  generalize rLen (min m 65536) r = q at *
  obtain ⟨n0, r1⟩ := q
  simp only at hq h0 h1
  obtain ⟨N, rfl⟩ := Int.eq_ofNat_of_zero_le h0
  rw [Int.toNat_natCast] at hq
  have hN : N ≤ 65536 := by omega
  rw [hq]
  clear hq h0 h1 hmin
  go_enter Try.func46, Try.ntmps46
  go_wp2_with fail
  refine HL.out.mono ?_
  rintro e w1 ⟨rfl, k1, k2⟩
  have K1 := Lib.hid k1
  have K2 := Lib.hid k2
  clear k1 k2
  go_wp2_with fail
  go_loopw [6, 7] (fun v i wr => ∃ (k : Nat) (A : Option Addr) (cap : Nat), k ≤ N ∧ i = .int .i64 k ∧ v = .slice A k cap ∧ wr.ownsRow w.heap.size 9 1 (.slice A k cap) k ((rStrs r1 k).1.map strV) ∧ At 85 wr g (rStrs r1 k).2 ∧ Sep g w.heap.size w wr) (fun _ i _ => N - (intOf i).toNat)
  case atStart => exact ⟨0, none, 0, by omega, rfl, rfl, World.ownsRow_nil _ _ _ _, K1.out, K2.out⟩
  case round =>
    obtain ⟨k, A, cap, hk, rfl, rfl, hown, hat, hsep⟩ := hrel
    have HO := Lib.hid hown
    have HA := Lib.hid hat
    have HS := Lib.hid hsep
    have hwr := hsep.size
    clear hown hat hsep
    rcases h9 : (rStrs r1 k).2 with x | l
    · have hA9 := HA.out
      rw [h9] at hA9
      have HF := Lib.hid (strs_stuck r1 k N x hk h9)
      have HA9 := Lib.hid hA9
      obtain ⟨z0, z1, t, t3⟩ := hA9
      have c1 : wr.cell? ⟨g, 1, none⟩ = some (.int .i64 (x : Int)) := cell_of_row wr g 1 _ _ (0, 0) t3
      have hx : ((x : Int) == 0) = false := by rw [beq_eq_false_iff_ne]; omega
      clear t3 h9
      by_cases hlt : (k : Int) < N
      all_goals
        go_wp2
        go_ret
        rw [HF.out]
        exact ⟨none, 0, rfl, World.ownsRow_nil _ _ _ _, HA9.out, HS.out⟩
    · have hA9 := HA.out
      rw [h9] at hA9
      have HA9 := Lib.hid hA9
      have H9 := Lib.hid h9
      obtain ⟨t, t1, t2, t3⟩ := hA9
      have c1 : wr.cell? ⟨g, 1, none⟩ = some (.int .i64 0) := cell_of_row wr g 1 _ _ (0, 0) t3
      clear t1 t2 t3 h9
      by_cases hlt : (k : Int) < N
      · have HI := Lib.hid (ref_text g _ _ HA.out)
        rcases hq : rText (rStrs r1 k).2 with ⟨z, r2⟩
        rw [hq] at HI
        have hs1 : rStrs r1 (k + 1) = ((rStrs r1 k).1 ++ [z], r2) := by rw [rStrs, hq]
        have HS1 := Lib.hid hs1
        clear hq hs1
        go_wp2_with fail
        refine HI.out.mono ?_
        rintro e w2 ⟨rfl, k3, k4⟩
        obtain ⟨tt, xx, hcg⟩ := At.cells HA.out
        have HO2 := Lib.hid (k4.own HO.out hcg (by decide))
        have HS2 := Lib.hid (HS.out.trans ⟨k4.os, k4.tape, k4.output, k4.size, fun i hi hg => k4.block i (Nat.lt_of_lt_of_le hi hwr) hg⟩)
        have hw2 := Nat.le_trans hwr k4.size
        have HA2 := Lib.hid k3
        clear k3 k4 hcg
        go_wp2_with ((at_builtin; refine wpList_append_own _ rfl _ _ 22 rfl w.heap.size 9 i0 (.string ByteArray.empty) 1 16 Try.underlying22 hi0 hz0 hz1 hz2 rfl (by decide) _ _ _ rfl (HO2.out.alloc _) ⟨w2.heap.size, 0, none⟩ 1 1 [strV z] rfl rfl ?c1 ?c2 ?c3 ?c4 ?c5 ?_))
        case c1 => exact cell_one_new _ _ _
        case c2 => simp [Value.oneCell', strV]
        case c3 => unfold maxLen; omega
        case c4 => omega
        case c5 => simp; omega
        intro v' w4 hown4 hgrow4 _
        have HO4 := Lib.hid hown4
        have HG4 := Lib.hid hgrow4
        clear hown4 hgrow4
        go_wp2
        obtain ⟨A', cap', hv⟩ := slice_of HO4.out
        have hfin : (∃ (k' : Nat) (A : Option Addr) (cap : Nat), k' ≤ N ∧ Value.int .i64 ((k : Int) + 1) = .int .i64 k' ∧ v' = .slice A k' cap ∧ w4.ownsRow w.heap.size 9 1 (.slice A k' cap) k' ((rStrs r1 k').1.map strV) ∧ At 85 w4 g (rStrs r1 k').2 ∧ Sep g w.heap.size w w4) := by
          refine ⟨k + 1, A', cap', by omega, by go_num, hv, ?_, ?_, ?_⟩
          · rw [HS1.out, List.map_append, ← hv]; exact HO4.out
          · rw [HS1.out]
            exact (HA2.out.below ((Below.refl _ _).alloc (Nat.le_refl _) _)).grown HG4.out (HO2.out.alloc _) (by decide)
          · exact (HS2.out.alloc hw2 _).grown HG4.out (by simp; omega) (fun r hr => by
              rcases HO2.out.2 with ⟨h1, _⟩ | ⟨r', cp, cur, h1, h2, _⟩
              · rw [h1] at hr; simp [Value.ownBlock] at hr
              · rw [h1] at hr; simp [Value.ownBlock] at hr; omega)
        exact ⟨hfin, by simp [intOf]; omega⟩
      · have hkN : k = N := by omega
        subst hkN
        go_wp2
        go_ret
        have hlen := rStrs_len r1 k
        have h9 := H9.out
        have HO9 := HO.out
        have HA8 := HA9.out
        rcases h8 : rStrs r1 k with ⟨a9, b9⟩
        rw [h8] at h9 hlen HO9
        simp only at h9 hlen HO9
        subst h9
        refine ⟨A, cap, ?_, ?_, HA8, HS.out⟩
        · show _ = Ending.returned (.slice A a9.length cap)
          rw [hlen]; rfl
        · show World.ownsRow _ _ _ _ (.slice A a9.length cap) a9.length _
          rw [hlen]; exact HO9



end Go.Proofs.Ytbkfbejbloclgaa.Oct
