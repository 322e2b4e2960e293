/-
  The walks of the document's plain reader: a number, a yes or no, a length, a text, the end.
-/
import Derived.Test.YtjemofhppljcbaaOctInList2
namespace Go.Proofs.Ytjemofhppljcbaa.Oct
open Go.RowKit

theorem ref_end (g : Nat) (r : Rest) (w : World) (h : At 53 w g r) :
    Calls Try.prog 33 #[.pointer (some ⟨g, 0, none⟩)] w fun e w' => e = .returned (.int .i64 (rEnd r)) ∧ w = w' := by
  cases r with
  | error x =>
    obtain ⟨h0, h1, t, h2⟩ := h
    have c0 : w.cell? ⟨g, 0, none⟩ = some (.string t) := cell_of_row w g 0 _ _ (0, 0) h2
    have c1 : w.cell? ⟨g, 1, none⟩ = some (.int .i64 (x : Int)) := cell_of_row w g 1 _ _ (0, 0) h2
    have hx : ((x : Int) == 0) = false := by rw [beq_eq_false_iff_ne]; omega
    show Calls _ _ _ _ fun e w' => e = .returned (.int .i64 (x : Int)) ∧ w = w'
    clear h2
    go_enter Try.func33, Try.ntmps33
    go_wp2
    go_ret
    exact ⟨rfl, rfl⟩
  | ok l =>
    obtain ⟨t, h1, h2, h3⟩ := h
    have c0 : w.cell? ⟨g, 0, none⟩ = some (.string t) := cell_of_row w g 0 _ _ (0, 0) h3
    have c1 : w.cell? ⟨g, 1, none⟩ = some (.int .i64 0) := cell_of_row w g 1 _ _ (0, 0) h3
    have htl : t.toList = l := by rw [ByteArray.toList_eq]; exact h1
    cases l with
    | nil =>
      have he : t.toList.isEmpty = true := by rw [htl]; rfl
      show Calls _ _ _ _ fun e w' => e = .returned (.int .i64 0) ∧ w = w'
      clear h1 h3 htl
      go_enter Try.func33, Try.ntmps33
      go_wp2
      go_ret
      exact ⟨rfl, rfl⟩
    | cons a b =>
      have he : t.toList.isEmpty = false := by rw [htl]; rfl
      show Calls _ _ _ _ fun e w' => e = .returned (.int .i64 4) ∧ w = w'
      clear h1 h3 htl
      go_enter Try.func33, Try.ntmps33
      go_wp2
      go_ret
      exact ⟨rfl, rfl⟩

set_option maxHeartbeats 400000 in
theorem ref_int (g : Nat) (r : Rest) (w : World) (h : At 53 w g r) :
    Calls Try.prog 23 #[.pointer (some ⟨g, 0, none⟩)] w (Gives 53 w g (.int .i64 (rInt r).1) (rInt r).2) := by
  cases r with
  | error x =>
    have HA := Lib.hid h
    obtain ⟨h0, h1, t, h2⟩ := h
    have c1 : w.cell? ⟨g, 1, none⟩ = some (.int .i64 (x : Int)) := cell_of_row w g 1 _ _ (0, 0) h2
    have hx : ((x : Int) == 0) = false := by rw [beq_eq_false_iff_ne]; omega
    clear h2
    go_enter Try.func23, Try.ntmps23
    go_wp2
    go_ret
    exact ⟨rfl, HA.out, Sep.refl _ _ _⟩
  | ok l =>
    obtain ⟨t, h1, h2, h3⟩ := h
    have c0 : w.cell? ⟨g, 0, none⟩ = some (.string t) := cell_of_row w g 0 _ _ (0, 0) h3
    have c1 : w.cell? ⟨g, 1, none⟩ = some (.int .i64 0) := cell_of_row w g 1 _ _ (0, 0) h3
    have hgw := heap_lt h3
    have hle := gb_err_le l
    have htk := gb_take_le l
    have hts : t.size = l.length := by rw [← h1]; rfl
    have hget : ∀ W : World, Calls Try.prog 13 #[.string t] W fun e w' => e = .returned (.tuple #[.int .i64 (gb l).1, .int .i64 (gb l).2.1, .int .i64 (gb l).2.2]) ∧ Below W.heap.size W w' := fun W => by
      have := rget_any t W h2
      rw [h1, three] at this
      exact this
    have H3 := Lib.hid h3
    have H1 := Lib.hid h1
    by_cases hz : (gb l).2.2 = 0
    · have hfin : Gives 53 w g (.int .i64 (rInt (.ok l)).1) (rInt (.ok l)).2 = Gives 53 w g (.int .i64 (gb l).1) (.ok (l.drop (gb l).2.1)) := by simp only [rInt]; rw [if_pos hz]
      rw [hfin]
      have htk2 := htk hz
      rw [hz] at hget
      generalize gb l = q at *
      have hq : (q.2.1 : Int) ≤ t.size := by omega
      obtain ⟨b, hb⟩ : ∃ b, b = t.extract q.2.1 t.size := ⟨_, rfl⟩
      have s2 : ∀ W : World, (Instr.slice 9 (.string t) (some (.int .i64 (q.2.1 : Int))) none none).run Try.prog W = .ok (.string b) W := by
        intro W
        rw [run_slice_string_l W 9 t Try.underlying9 .i64 _ (by omega) (by omega), hb]
        rfl
      have e2 : bs b = l.drop q.2.1 := by rw [hb, ← h1]; exact Lib.extract_to_end t q.2.1
      have e3 : b.size ≤ 9223372036854775807 := by
        have : b.size = (l.drop q.2.1).length := by rw [← e2]; rfl
        rw [List.length_drop] at this
        omega
      have HG := Lib.hid hget
      have E2 := Lib.hid e2
      clear h1 h3 hget hz hle htk hfin hb e2 hts
      go_enter Try.func23, Try.ntmps23
      go_wp2_with fail
      refine (HG.out _).mono ?_
      rintro e w2 ⟨rfl, k1⟩
      have h3' := (k1.block g hgw).trans H3.out
      have d0 : w2.cell? ⟨g, 0, none⟩ = some (.string t) := cell_of_row w2 g 0 _ _ (0, 0) h3'
      have f0 : w2.frozen? ⟨g, 0, none⟩ = false := by simp [World.frozen?, h3']
      have H3' := Lib.hid h3'
      clear h3'
      go_wp2
      go_ret
      exact ⟨rfl, ⟨b, E2.out, e3, heap_set H3'.out 0 _⟩, Sep.setCell (p := ⟨g, 0, none⟩) (Sep.of_below k1) (.inl rfl) _⟩
    · have hfin : Gives 53 w g (.int .i64 (rInt (.ok l)).1) (rInt (.ok l)).2 = Gives 53 w g (.int .i64 0) (.error (gb l).2.2) := by simp only [rInt]; rw [if_neg hz]
      rw [hfin]
      have hne : (((gb l).2.2 : Int) == 0) = false := by rw [beq_eq_false_iff_ne]; omega
      have HX : Hid ((gb l).2.2 ≠ 0 ∧ (gb l).2.2 ≤ 100) := ⟨hz, by omega⟩
      generalize gb l = q at *
      have HG := Lib.hid hget
      clear h1 h3 hget hz hle htk hfin hts
      go_enter Try.func23, Try.ntmps23
      go_wp2_with fail
      refine (HG.out _).mono ?_
      rintro e w2 ⟨rfl, k1⟩
      have h3' := (k1.block g hgw).trans H3.out
      have d1 : w2.cell? ⟨g, 1, none⟩ = some (.int .i64 0) := cell_of_row w2 g 1 _ _ (0, 0) h3'
      have f1 : w2.frozen? ⟨g, 1, none⟩ = false := by simp [World.frozen?, h3']
      have H3' := Lib.hid h3'
      clear h3'
      go_wp2
      go_ret
      exact ⟨rfl, ⟨HX.out.1, HX.out.2, t, heap_set H3'.out 1 _⟩, Sep.setCell (p := ⟨g, 1, none⟩) (Sep.of_below k1) (.inl rfl) _⟩

set_option maxHeartbeats 400000 in
theorem ref_bool (g : Nat) (r : Rest) (w : World) (h : At 53 w g r) :
    Calls Try.prog 25 #[.pointer (some ⟨g, 0, none⟩)] w (Gives 53 w g (.bool (rBool r).1) (rBool r).2) := by
  cases r with
  | error x =>
    have HA := Lib.hid h
    obtain ⟨h0, h1, t, h2⟩ := h
    have c1 : w.cell? ⟨g, 1, none⟩ = some (.int .i64 (x : Int)) := cell_of_row w g 1 _ _ (0, 0) h2
    have hx : ((x : Int) == 0) = false := by rw [beq_eq_false_iff_ne]; omega
    clear h2
    go_enter Try.func25, Try.ntmps25
    go_wp2
    go_ret
    exact ⟨rfl, HA.out, Sep.refl _ _ _⟩
  | ok l =>
    obtain ⟨t, h1, h2, h3⟩ := h
    have c0 : w.cell? ⟨g, 0, none⟩ = some (.string t) := cell_of_row w g 0 _ _ (0, 0) h3
    have c1 : w.cell? ⟨g, 1, none⟩ = some (.int .i64 0) := cell_of_row w g 1 _ _ (0, 0) h3
    have f0 : ∀ i, w.frozen? ⟨g, i, none⟩ = false := fun i => by simp [World.frozen?, h3]
    have htl : t.toList = l := by rw [ByteArray.toList_eq]; exact h1
    have H3 := Lib.hid h3
    cases l with
    | nil =>
      have he : t.toList.isEmpty = true := by rw [htl]; rfl
      show Calls _ _ _ _ (Gives _ w g (.bool false) (.error 3))
      clear h1 h3 htl
      go_enter Try.func25, Try.ntmps25
      go_wp2
      go_ret
      exact ⟨rfl, ⟨by omega, by omega, t, heap_set H3.out 1 _⟩, Sep.setCell (p := ⟨g, 1, none⟩) (Sep.refl _ _ _) (.inl rfl) _⟩
    | cons c l =>
      have he : t.toList.isEmpty = false := by rw [htl]; rfl
      have h0 : 0 < t.size := by rw [← bs_length, h1]; simp
      have hc : t[0] = c := by
        have := bs_get t 0 h0
        simp only [h1, List.getElem_cons_zero] at this
        exact this.symm
      have hb := t[0].toNat_lt
      by_cases hbig : 1 < (t[0].toNat : Int)
      · have hfin : rBool (.ok (c :: l)) = (false, .error 2) := by simp only [rBool]; rw [if_pos (by rw [← hc]; omega)]
        rw [hfin]
        clear h1 h3 htl hc hfin
        go_enter Try.func25, Try.ntmps25
        go_wp2
        go_ret
        exact ⟨rfl, ⟨by omega, by omega, t, heap_set H3.out 1 _⟩, Sep.setCell (p := ⟨g, 1, none⟩) (Sep.refl _ _ _) (.inl rfl) _⟩
      · have hfin : rBool (.ok (c :: l)) = (c == 1, .ok l) := by simp only [rBool]; rw [if_neg (by rw [← hc]; omega)]
        rw [hfin]
        obtain ⟨b, hb2⟩ : ∃ b, b = t.extract 1 t.size := ⟨_, rfl⟩
        have s2 : ∀ W : World, (Instr.slice 9 (.string t) (some (.int .i64 1)) none none).run Try.prog W = .ok (.string b) W := by
          intro W
          rw [run_slice_string_l W 9 t Try.underlying9 .i64 _ (by omega) (by omega), hb2]
          rfl
        have e2 : bs b = l := by
          have := Lib.extract_to_end t 1
          rw [← hb2] at this
          show b.data.toList = l
          rw [this]
          show (bs t).drop 1 = l
          rw [h1]; rfl
        have e3 : b.size ≤ 9223372036854775807 := by
          have h5 : b.size = l.length := by rw [← e2]; rfl
          have h6 : t.size = l.length + 1 := by rw [← bs_length, h1]; rfl
          omega
        have E2 := Lib.hid e2
        have hc1 : (((t[0].toNat : Nat) : Int) == 1) = (c == 1) := by
          rw [hc]
          cases h9 : c == 1
          · have : c ≠ 1 := by simpa using h9
            rw [beq_eq_false_iff_ne]
            intro h10
            exact this (UInt8.toNat_inj.1 (by have : (1 : UInt8).toNat = 1 := rfl; omega))
          · have : c = 1 := by simpa using h9
            subst this; rfl
        clear h1 h3 htl hc hfin hb2 e2
        cases hcc : c == 1
        all_goals
          rw [hcc] at hc1
          go_enter Try.func25, Try.ntmps25
          go_wp2
          go_ret
          exact ⟨rfl, ⟨b, E2.out, e3, heap_set H3.out 0 _⟩, Sep.setCell (p := ⟨g, 0, none⟩) (Sep.refl _ _ _) (.inl rfl) _⟩

end Go.Proofs.Ytjemofhppljcbaa.Oct
