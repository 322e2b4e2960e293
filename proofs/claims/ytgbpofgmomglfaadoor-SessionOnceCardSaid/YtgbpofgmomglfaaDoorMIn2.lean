/-
  The walks of an In's methods, on: a yes or no, a length, a text; a new In.
-/
import Derived.Test.YtgbpofgmomglfaaDoorMIn
namespace Go.Proofs.YtgbpofgmomglfaaDoor.Oct
set_option maxRecDepth 100000
open Go.RowKit

theorem bool_in_nil (w : World) : Calls Tryd.prog 98 #[.pointer none] w fun e w' => e = .returned (.bool false) ∧ w = w' := by
  go_enter Tryd.func98, Tryd.ntmps98
  go_wp2_with fail
  refine (err_nil _).mono ?_
  rintro e w' ⟨rfl, rfl⟩
  go_wp2
  go_ret
  exact ⟨rfl, rfl⟩

theorem beq_one (c : UInt8) : (([c] : List UInt8) == [1]) = (c == 1) := by
  cases h : c == 1
  · have : c ≠ 1 := by simpa using h
    simpa using this
  · have : c = 1 := by simpa using h
    simpa using this

set_option maxHeartbeats 400000 in
theorem bool_in_any (g : Nat) (r : Rest) (w : World) (h : At 138 w g r) :
    Calls Tryd.prog 98 #[.pointer (some ⟨g, 0, none⟩)] w (Gives 138 w g (.bool (rBool r).1) (rBool r).2) := by
  cases r with
  | error x =>
    have H := Lib.hid (err_any g (.error x) w h)
    have hx : ((x : Int) == 0) = false := by rw [beq_eq_false_iff_ne]; have := h.1; omega
    have HA := Lib.hid h
    clear h
    go_enter Tryd.func98, Tryd.ntmps98
    go_wp2_with fail
    refine H.out.mono ?_
    rintro e w' ⟨rfl, rfl⟩
    simp only [rErr]
    go_wp2
    go_ret
    exact ⟨rfl, HA.out, Sep.refl _ _ _⟩
  | ok l =>
    have H := Lib.hid (err_any g (.ok l) w h)
    have HA := Lib.hid h
    obtain ⟨t, h1, h2, h3⟩ := h
    have c0 : w.cell? ⟨g, 0, none⟩ = some (.string t) := cell_of_row w g 0 _ _ (0, 0) h3
    have htl : t.toList = l := by rw [ByteArray.toList_eq]; exact h1
    cases l with
    | nil =>
      have he : t.toList.isEmpty = true := by rw [htl]; rfl
      show Calls _ _ _ _ (Gives _ w g (.bool false) (.error 3))
      clear h1 h3 htl
      go_enter Tryd.func98, Tryd.ntmps98
      go_wp2_with fail
      refine H.out.mono ?_
      rintro e w' ⟨rfl, rfl⟩
      simp only [rErr]
      go_wp2_with fail
      refine (fail_any g (.ok []) 3 ⟨by omega, by omega⟩ _ HA.out).mono ?_
      rintro e w' ⟨rfl, k1, k2⟩
      go_wp2
      go_ret
      exact ⟨rfl, k1, k2⟩
    | cons c l =>
      have he : t.toList.isEmpty = false := by rw [htl]; rfl
      have h0 : 0 < t.size := by rw [← bs_length, h1]; simp
      have hc : t[0] = c := by
        have := bs_get t 0 h0
        simp only [h1, List.getElem_cons_zero] at this
        exact this.symm
      have hb := t[0].toNat_lt
      by_cases hbig : 1 < (t[0].toNat : Int)
      · have hfin : rBool (.ok (c :: l)) = (false, .error 2) := by simp only [rBool]; rw [if_pos (by rw [← hc]; omega)]
        rw [hfin]
        clear h1 h3 htl hc hfin
        go_enter Tryd.func98, Tryd.ntmps98
        go_wp2_with fail
        refine H.out.mono ?_
        rintro e w' ⟨rfl, rfl⟩
        simp only [rErr]
        go_wp2_with fail
        refine (fail_any g (.ok (c :: l)) 2 ⟨by omega, by omega⟩ _ HA.out).mono ?_
        rintro e w' ⟨rfl, k1, k2⟩
        go_wp2
        go_ret
        exact ⟨rfl, k1, k2⟩
      · have hfin : rBool (.ok (c :: l)) = (c == 1, .ok l) := by simp only [rBool]; rw [if_neg (by rw [← hc]; omega)]
        rw [hfin]
        obtain ⟨q, hq⟩ : ∃ q : ByteArray, q = ⟨((c :: l).take 1).toArray⟩ := ⟨_, rfl⟩
        have htake : ∀ W, At 138 W g (.ok (c :: l)) → Calls Tryd.prog 71 #[.pointer (some ⟨g, 0, none⟩), .int .i64 1] W (Gives 138 W g (.string q) (.ok l)) := fun W hW => by
          have := take_any g (c :: l) 1 W hW (by simp)
          rw [← hq] at this
          exact this
        have hq1 : (q.toList == [1]) = (c == 1) := by rw [hq, ByteArray.toList_mk]; exact beq_one c
        have HT := Lib.hid htake
        clear h1 h3 htl hc hfin htake hq
        cases hcc : c == 1
        all_goals
          rw [hcc] at hq1
          go_enter Tryd.func98, Tryd.ntmps98
          go_wp2_with fail
          refine H.out.mono ?_
          rintro e w' ⟨rfl, rfl⟩
          simp only [rErr]
          go_wp2_with fail
          refine (HT.out _ HA.out).mono ?_
          rintro e w' ⟨rfl, k1, k2⟩
          go_wp2
          go_ret
          exact ⟨rfl, k1, k2⟩

theorem Sep.same {g : Nat} {a b d : World} (h : Sep g a.heap.size a b) (k : Sep g b.heap.size b d) : Sep g a.heap.size a d :=
  h.trans ⟨k.os, k.tape, k.output, k.size, fun i hi hg => k.block i (Nat.lt_of_lt_of_le hi h.size) hg⟩

theorem length_in_nil (m : Int) (w : World) : Calls Tryd.prog 106 #[.pointer none, .int .i64 m] w fun e w' => e = .returned (.int .i64 0) ∧ w = w' := by
  go_enter Tryd.func106, Tryd.ntmps106
  go_wp2_with fail
  refine (int_in_nil _).mono ?_
  rintro e w' ⟨rfl, rfl⟩
  go_wp2_with fail
  refine (err_nil _).mono ?_
  rintro e w' ⟨rfl, rfl⟩
  go_wp2
  go_ret
  exact ⟨rfl, rfl⟩

set_option maxHeartbeats 400000 in
theorem length_in_any (g : Nat) (m : Int) (r : Rest) (w : World) (h : At 138 w g r) :
    Calls Tryd.prog 106 #[.pointer (some ⟨g, 0, none⟩), .int .i64 m] w (Gives 138 w g (.int .i64 (rLen m r).1) (rLen m r).2) := by
  have HI := Lib.hid (int_in_any g r w h)
  clear h
  rcases hr : rInt r with ⟨n, r2⟩
  rw [hr] at HI
  cases r2 with
  | error x =>
    have hfin : rLen m r = (0, .error x) := by rw [rLen, hr]
    rw [hfin]
    clear hfin hr
    go_enter Tryd.func106, Tryd.ntmps106
    go_wp2_with fail
    refine HI.out.mono ?_
    rintro e w1 ⟨rfl, k1, k2⟩
    have H := Lib.hid (err_any g (.error x) w1 k1)
    have hx : ((x : Int) == 0) = false := by rw [beq_eq_false_iff_ne]; have := k1.1; omega
    have HA := Lib.hid k1
    clear k1
    go_wp2_with fail
    refine H.out.mono ?_
    rintro e w' ⟨rfl, rfl⟩
    simp only [rErr]
    go_wp2
    go_ret
    exact ⟨rfl, HA.out, k2⟩
  | ok l =>
    by_cases h1 : n < 0
    · have hfin : rLen m r = (0, .error 2) := by rw [rLen, hr]; exact if_pos h1
      rw [hfin]
      clear hfin hr
      go_enter Tryd.func106, Tryd.ntmps106
      go_wp2_with fail
      refine HI.out.mono ?_
      rintro e w1 ⟨rfl, k1, k2⟩
      have H := Lib.hid (err_any g (.ok l) w1 k1)
      have HA := Lib.hid k1
      clear k1
      go_wp2_with fail
      refine H.out.mono ?_
      rintro e w' ⟨rfl, rfl⟩
      simp only [rErr]
      go_wp2_with fail
      refine (fail_any g (.ok l) 2 ⟨by omega, by omega⟩ _ HA.out).mono ?_
      rintro e w' ⟨rfl, k3, k4⟩
      go_wp2
      go_ret
      exact ⟨rfl, k3, k2.same k4⟩
    · by_cases h2 : m < n
      · have hfin : rLen m r = (0, .error 6) := by rw [rLen, hr]; show (if n < 0 then _ else _) = _; rw [if_neg h1, if_pos h2]
        rw [hfin]
        clear hfin hr
        go_enter Tryd.func106, Tryd.ntmps106
        go_wp2_with fail
        refine HI.out.mono ?_
        rintro e w1 ⟨rfl, k1, k2⟩
        have H := Lib.hid (err_any g (.ok l) w1 k1)
        have HA := Lib.hid k1
        clear k1
        go_wp2_with fail
        refine H.out.mono ?_
        rintro e w' ⟨rfl, rfl⟩
        simp only [rErr]
        go_wp2_with fail
        refine (fail_any g (.ok l) 6 ⟨by omega, by omega⟩ _ HA.out).mono ?_
        rintro e w' ⟨rfl, k3, k4⟩
        go_wp2
        go_ret
        exact ⟨rfl, k3, k2.same k4⟩
      · have hfin : rLen m r = (n, .ok l) := by rw [rLen, hr]; show (if n < 0 then _ else _) = _; rw [if_neg h1, if_neg h2]
        rw [hfin]
        clear hfin hr
        go_enter Tryd.func106, Tryd.ntmps106
        go_wp2_with fail
        refine HI.out.mono ?_
        rintro e w1 ⟨rfl, k1, k2⟩
        have H := Lib.hid (err_any g (.ok l) w1 k1)
        have HA := Lib.hid k1
        clear k1
        go_wp2_with fail
        refine H.out.mono ?_
        rintro e w' ⟨rfl, rfl⟩
        simp only [rErr]
        go_wp2
        go_ret
        exact ⟨rfl, HA.out, k2⟩

theorem text_in_nil (w : World) : Calls Tryd.prog 105 #[.pointer none] w fun e w' => e = .returned (.string ⟨#[]⟩) ∧ w = w' := by
  go_enter Tryd.func105, Tryd.ntmps105
  go_wp2_with fail
  refine (length_in_nil _ _).mono ?_
  rintro e w' ⟨rfl, rfl⟩
  go_wp2_with fail
  refine (err_nil _).mono ?_
  rintro e w' ⟨rfl, rfl⟩
  go_wp2
  go_ret
  exact ⟨rfl, rfl⟩

theorem rLen_nonneg (m : Int) (r : Rest) : 0 ≤ (rLen m r).1 := by
  unfold rLen
  split
  · simp
  · split
    · simp
    · split
      · simp
      · simp only; omega

set_option maxHeartbeats 400000 in
theorem text_in_any (g : Nat) (r : Rest) (w : World) (h : At 138 w g r) :
    Calls Tryd.prog 105 #[.pointer (some ⟨g, 0, none⟩)] w (Gives 138 w g (.string ⟨(rText r).1.toArray⟩) (rText r).2) := by
  have HI := Lib.hid (length_in_any g 65536 r w h)
  have hn0 := rLen_nonneg 65536 r
  clear h
  rcases hr : rLen 65536 r with ⟨n, r2⟩
  rw [hr] at HI hn0
  simp only at hn0
  cases r2 with
  | error x =>
    have hfin : rText r = ([], .error x) := by rw [rText, hr]
    rw [hfin]
    clear hfin hr
    go_enter Tryd.func105, Tryd.ntmps105
    go_wp2_with fail
    refine HI.out.mono ?_
    rintro e w1 ⟨rfl, k1, k2⟩
    have H := Lib.hid (err_any g (.error x) w1 k1)
    have hx : ((x : Int) == 0) = false := by rw [beq_eq_false_iff_ne]; have := k1.1; omega
    have HA := Lib.hid k1
    clear k1
    go_wp2_with fail
    refine H.out.mono ?_
    rintro e w' ⟨rfl, rfl⟩
    simp only [rErr]
    go_wp2
    go_ret
    exact ⟨rfl, HA.out, k2⟩
  | ok l =>
    by_cases h1 : (l.length : Int) < n
    · have hfin : rText r = ([], .error 3) := by rw [rText, hr]; exact if_pos h1
      rw [hfin]
      clear hfin hr
      go_enter Tryd.func105, Tryd.ntmps105
      go_wp2_with fail
      refine HI.out.mono ?_
      rintro e w1 ⟨rfl, k1, k2⟩
      have H := Lib.hid (err_any g (.ok l) w1 k1)
      have HA := Lib.hid k1
      obtain ⟨t, t1, t2, t3⟩ := k1
      have hts : (t.size : Int) < n := by have : t.size = l.length := by rw [← t1]; rfl
                                          omega
      have c0 : w1.cell? ⟨g, 0, none⟩ = some (.string t) := cell_of_row w1 g 0 _ _ (0, 0) t3
      clear t1 t3
      go_wp2_with fail
      refine H.out.mono ?_
      rintro e w' ⟨rfl, rfl⟩
      simp only [rErr]
      go_wp2_with fail
      refine (fail_any g (.ok l) 3 ⟨by omega, by omega⟩ _ HA.out).mono ?_
      rintro e w' ⟨rfl, k3, k4⟩
      go_wp2
      go_ret
      exact ⟨rfl, k3, k2.same k4⟩
    · have hfin : rText r = (l.take n.toNat, .ok (l.drop n.toNat)) := by rw [rText, hr]; exact if_neg h1
      rw [hfin]
      obtain ⟨m, rfl⟩ := Int.eq_ofNat_of_zero_le hn0
      rw [Int.toNat_natCast]
      obtain ⟨q, hq⟩ : ∃ q : ByteArray, q = ⟨(l.take m).toArray⟩ := ⟨_, rfl⟩
      have htake : ∀ W, At 138 W g (.ok l) → Calls Tryd.prog 71 #[.pointer (some ⟨g, 0, none⟩), .int .i64 m] W (Gives 138 W g (.string q) (.ok (l.drop m))) := fun W hW => by
        rw [hq]; exact take_any g l m W hW (by omega)
      rw [← hq]
      have HT := Lib.hid htake
      clear hfin hr hq htake
      go_enter Tryd.func105, Tryd.ntmps105
      go_wp2_with fail
      refine HI.out.mono ?_
      rintro e w1 ⟨rfl, k1, k2⟩
      have H := Lib.hid (err_any g (.ok l) w1 k1)
      have HA := Lib.hid k1
      obtain ⟨t, t1, t2, t3⟩ := k1
      have hts : (m : Int) ≤ (t.size : Int) := by have : t.size = l.length := by rw [← t1]; rfl
                                                  omega
      have c0 : w1.cell? ⟨g, 0, none⟩ = some (.string t) := cell_of_row w1 g 0 _ _ (0, 0) t3
      clear t1 t3
      go_wp2_with fail
      refine H.out.mono ?_
      rintro e w' ⟨rfl, rfl⟩
      simp only [rErr]
      go_wp2_with fail
      refine (HT.out _ HA.out).mono ?_
      rintro e w' ⟨rfl, k3, k4⟩
      go_wp2
      go_ret
      exact ⟨rfl, k3, k2.same k4⟩

/-- A new In. -/
theorem open_any (t : ByteArray) (w : World) :
    Calls Tryd.prog 60 #[.string t] w fun e w' => e = .returned (.pointer (some ⟨w.heap.size, 0, none⟩)) ∧ w' = w.alloc (.cells #[.string t, .int .i64 0] 138) := by
  go_enter Tryd.func60, Tryd.ntmps60
  go_wp2
  go_ret
  exact ⟨rfl, rfl⟩
theorem At.new (T : TypeId) (t : ByteArray) (w : World) (h : t.size ≤ 9223372036854775807) : At T (w.alloc (.cells #[.string t, .int .i64 0] T)) w.heap.size (.ok (bs t)) :=
  ⟨t, rfl, h, heap_alloc_new w _⟩

end Go.Proofs.YtgbpofgmomglfaaDoor.Oct
