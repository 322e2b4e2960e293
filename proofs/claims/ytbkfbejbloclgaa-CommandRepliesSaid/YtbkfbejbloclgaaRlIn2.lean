/-
  What an In holds, and the walks of its methods.
  The walks of an In's methods, on: a yes or no, a length, a text; a new In.
-/
import Derived.Test.YtbkfbejbloclgaaRlTexts
import Derived.Lib.IndexBytes

namespace Go.Proofs.Ytbkfbejbloclgaa.Oct
open Go.RowKit

/-- What is left to be read, or the first error. -/
abbrev Rest := Except Nat (List UInt8)
/-- Block g is a reader of type T that stands so. -/
def At (T : TypeId) (w : World) (g : Nat) : Rest → Prop
  | .ok l => ∃ t : ByteArray, bs t = l ∧ t.size ≤ 9223372036854775807 ∧ w.heap[g]? = some (.cells #[.string t, .int .i64 0] T (0, 0))
  | .error e => e ≠ 0 ∧ e ≤ 100 ∧ ∃ t : ByteArray, w.heap[g]? = some (.cells #[.string t, .int .i64 e] T (0, 0))
theorem At.block {T : TypeId} {w w' : World} {g : Nat} {r : Rest} (h : At T w g r) (hb : w'.heap[g]? = w.heap[g]?) : At T w' g r := by
  cases r with
  | ok l => obtain ⟨t, h1, h2, h3⟩ := h; exact ⟨t, h1, h2, hb.trans h3⟩
  | error e => obtain ⟨h0, h1, t, h2⟩ := h; exact ⟨h0, h1, t, hb.trans h2⟩
theorem At.lt {T : TypeId} {w : World} {g : Nat} {r : Rest} (h : At T w g r) : g < w.heap.size := by
  cases r with
  | ok l => obtain ⟨t, h1, h2, h3⟩ := h; exact heap_lt h3
  | error e => obtain ⟨h0, h1, t, h2⟩ := h; exact heap_lt h2
theorem At.below {T : TypeId} {w w' : World} {g : Nat} {r : Rest} (h : At T w g r) (hb : Below w.heap.size w w') : At T w' g r := h.block (hb.block g h.lt)

def rInt : Rest → Int × Rest
  | .error e => (0, .error e)
  | .ok l => if (gb l).2.2 = 0 then ((gb l).1, .ok (l.drop (gb l).2.1)) else (0, .error (gb l).2.2)
def rBool : Rest → Bool × Rest
  | .error e => (false, .error e)
  | .ok [] => (false, .error 3)
  | .ok (c :: l) => if 1 < c.toNat then (false, .error 2) else (c == 1, .ok l)
def rErr : Rest → Nat
  | .error e => e
  | .ok _ => 0
def rEnd : Rest → Nat
  | .error e => e
  | .ok [] => 0
  | .ok (_ :: _) => 4
def rLen (most : Int) (r : Rest) : Int × Rest :=
  match rInt r with
  | (_, .error e) => (0, .error e)
  | (n, .ok l) => if n < 0 then (0, .error 2) else if most < n then (0, .error 6) else (n, .ok l)
def rText (r : Rest) : List UInt8 × Rest :=
  match rLen 65536 r with
  | (_, .error e) => ([], .error e)
  | (n, .ok l) => if (l.length : Int) < n then ([], .error 3) else (l.take n.toNat, .ok (l.drop n.toNat))

/-- What a reading call leaves. -/
def Gives (T : TypeId) (w : World) (g : Nat) (v : Value) (r : Rest) (e : Ending) (w' : World) : Prop := e = .returned v ∧ At T w' g r ∧ Sep g w.heap.size w w'

theorem gb_err_le (l : List UInt8) : (gb l).2.2 ≤ 3 := by
  unfold gb
  split
  · simp
  · simp only
    split
    · simp
    · split
      · simp
      · split <;> simp
theorem gb_take_le (l : List UInt8) (h : (gb l).2.2 = 0) : (gb l).2.1 ≤ l.length := by
  revert h
  unfold gb
  split
  · simp
  · simp only
    split
    · simp
    · split
      · simp
      · split
        · simp
        · simp only [List.length_cons]
          omega

theorem err_nil (w : World) : Calls Try.prog 65 #[.pointer none] w fun e w' => e = .returned (.int .i64 1) ∧ w = w' := by
  go_enter Try.func65, Try.ntmps65
  go_wp2
  go_ret
  exact ⟨rfl, rfl⟩
theorem err_cell (g : Nat) (t : ByteArray) (x : Int) (w : World) (h : w.heap[g]? = some (.cells #[.string t, .int .i64 x] 107 (0, 0))) :
    Calls Try.prog 65 #[.pointer (some ⟨g, 0, none⟩)] w fun e w' => e = .returned (.int .i64 x) ∧ w = w' := by
  have c1 : w.cell? ⟨g, 1, none⟩ = some (.int .i64 x) := cell_of_row w g 1 _ _ (0, 0) h
  clear h
  go_enter Try.func65, Try.ntmps65
  go_wp2
  go_ret
  exact ⟨rfl, rfl⟩
theorem err_any (g : Nat) (r : Rest) (w : World) (h : At 107 w g r) :
    Calls Try.prog 65 #[.pointer (some ⟨g, 0, none⟩)] w fun e w' => e = .returned (.int .i64 (rErr r)) ∧ w = w' := by
  cases r with
  | ok l => obtain ⟨t, h1, h2, h3⟩ := h; exact err_cell g t 0 w h3
  | error e => obtain ⟨h0, h1, t, h2⟩ := h; exact err_cell g t e w h2

theorem end_nil (w : World) : Calls Try.prog 71 #[.pointer none] w fun e w' => e = .returned (.int .i64 1) ∧ w = w' := by
  go_enter Try.func71, Try.ntmps71
  go_wp2_with fail
  refine (err_nil _).mono ?_
  rintro e w' ⟨rfl, rfl⟩
  go_wp2
  go_ret
  exact ⟨rfl, rfl⟩
theorem end_any (g : Nat) (r : Rest) (w : World) (h : At 107 w g r) :
    Calls Try.prog 71 #[.pointer (some ⟨g, 0, none⟩)] w fun e w' => e = .returned (.int .i64 (rEnd r)) ∧ w = w' := by
  cases r with
  | error x =>
    have H := Lib.hid (err_any g (.error x) w h)
    have hx : ((x : Int) == 0) = false := by rw [beq_eq_false_iff_ne]; have := h.1; omega
    clear h
    show Calls _ _ _ _ fun e w' => e = .returned (.int .i64 (x : Int)) ∧ w = w'
    go_enter Try.func71, Try.ntmps71
    go_wp2_with fail
    refine H.out.mono ?_
    rintro e w' ⟨rfl, rfl⟩
    simp only [rErr]
    go_wp2
    go_ret
    exact ⟨rfl, rfl⟩
  | ok l =>
    have H := Lib.hid (err_any g (.ok l) w h)
    obtain ⟨t, h1, h2, h3⟩ := h
    have c0 : w.cell? ⟨g, 0, none⟩ = some (.string t) := cell_of_row w g 0 _ _ (0, 0) h3
    have htl : t.toList = l := by rw [ByteArray.toList_eq]; exact h1
    cases l with
    | nil =>
      have he : t.toList.isEmpty = true := by rw [htl]; rfl
      show Calls _ _ _ _ fun e w' => e = .returned (.int .i64 0) ∧ w = w'
      clear h1 h3 htl
      go_enter Try.func71, Try.ntmps71
      go_wp2_with fail
      refine H.out.mono ?_
      rintro e w' ⟨rfl, rfl⟩
      simp only [rErr]
      go_wp2
      go_ret
      exact ⟨rfl, rfl⟩
    | cons a b =>
      have he : t.toList.isEmpty = false := by rw [htl]; rfl
      show Calls _ _ _ _ fun e w' => e = .returned (.int .i64 4) ∧ w = w'
      clear h1 h3 htl
      go_enter Try.func71, Try.ntmps71
      go_wp2_with fail
      refine H.out.mono ?_
      rintro e w' ⟨rfl, rfl⟩
      simp only [rErr]
      go_wp2
      go_ret
      exact ⟨rfl, rfl⟩

theorem At.cells {T : TypeId} {w : World} {g : Nat} {r : Rest} (h : At T w g r) : ∃ (t : ByteArray) (x : Int), w.heap[g]? = some (.cells #[.string t, .int .i64 x] T (0, 0)) := by
  cases r with
  | ok l => obtain ⟨t, _, _, h3⟩ := h; exact ⟨t, 0, h3⟩
  | error e => obtain ⟨_, _, t, h2⟩ := h; exact ⟨t, e, h2⟩

theorem fail_any (g : Nat) (r : Rest) (x : Nat) (hx : x ≠ 0 ∧ x ≤ 100) (w : World) (h : At 107 w g r) :
    Calls Try.prog 67 #[.pointer (some ⟨g, 0, none⟩), .int .i64 x] w (Gives 107 w g (.tuple #[]) (.error x)) := by
  obtain ⟨t, y, h3⟩ := h.cells
  have c0 : w.cell? ⟨g, 0, none⟩ = some (.string t) := cell_of_row w g 0 _ _ (0, 0) h3
  have c1 : w.cell? ⟨g, 1, none⟩ = some (.int .i64 y) := cell_of_row w g 1 _ _ (0, 0) h3
  have f0 : ∀ i, w.frozen? ⟨g, i, none⟩ = false := fun i => by simp [World.frozen?, h3]
  have H := Lib.hid h3
  have HX := Lib.hid hx
  clear h3 hx h
  go_enter Try.func67, Try.ntmps67
  go_wp2
  go_end0
  refine ⟨rfl, ⟨HX.out.1, HX.out.2, ⟨#[]⟩, ?_⟩, Sep.setCell (p := ⟨g, 1, none⟩) (Sep.setCell (p := ⟨g, 0, none⟩) (Sep.refl g _ w) (.inl rfl) _) (.inl rfl) _⟩
  exact heap_set (heap_set H.out 0 _) 1 _

theorem take_any (g : Nat) (l : List UInt8) (n : Nat) (w : World) (h : At 107 w g (.ok l)) (hn : n ≤ l.length) :
    Calls Try.prog 68 #[.pointer (some ⟨g, 0, none⟩), .int .i64 n] w (Gives 107 w g (.string ⟨(l.take n).toArray⟩) (.ok (l.drop n))) := by
  obtain ⟨t, h1, h2, h3⟩ := h
  have hs : n ≤ t.size := by rw [← bs_length, h1]; exact hn
  have c0 : w.cell? ⟨g, 0, none⟩ = some (.string t) := cell_of_row w g 0 _ _ (0, 0) h3
  have f0 : w.frozen? ⟨g, 0, none⟩ = false := by simp [World.frozen?, h3]
  obtain ⟨a, ha⟩ : ∃ a, a = t.extract 0 n := ⟨_, rfl⟩
  obtain ⟨b, hb⟩ : ∃ b, b = t.extract n t.size := ⟨_, rfl⟩
  have s1 : ∀ W : World, (Instr.slice 9 (.string t) none (some (.int .i64 (n : Int))) none).run Try.prog W = .ok (.string a) W := by
    intro W
    rw [run_slice_string_h W 9 t Try.underlying9 .i64 _ (by omega) (by omega), ha]
    rfl
  have s2 : ∀ W : World, (Instr.slice 9 (.string t) (some (.int .i64 (n : Int))) none none).run Try.prog W = .ok (.string b) W := by
    intro W
    rw [run_slice_string_l W 9 t Try.underlying9 .i64 _ (by omega) (by omega), hb]
    rfl
  have e1 : (⟨(l.take n).toArray⟩ : ByteArray) = a := by
    have : bs a = l.take n := by rw [ha, ← h1]; show (t.extract 0 n).data.toList = _; rw [Lib.extract_data]; rfl
    rw [← this]
  have e2 : bs b = l.drop n := by rw [hb, ← h1]; exact Lib.extract_to_end t n
  have e3 : b.size ≤ 9223372036854775807 := by
    have : b.size = (l.drop n).length := by rw [← e2]; rfl
    have h4 : t.size = l.length := by rw [← h1]; rfl
    rw [List.length_drop] at this
    omega
  rw [e1]
  have H := Lib.hid h3
  have E2 := Lib.hid e2
  clear h3 h1 ha hb e1 e2
  go_enter Try.func68, Try.ntmps68
  go_wp2
  go_ret
  exact ⟨rfl, ⟨b, E2.out, e3, heap_set H.out 0 _⟩, Sep.setCell (p := ⟨g, 0, none⟩) (Sep.refl g _ w) (.inl rfl) _⟩

theorem int_in_nil (w : World) : Calls Try.prog 39 #[.pointer none] w fun e w' => e = .returned (.int .i64 0) ∧ w = w' := by
  go_enter Try.func39, Try.ntmps39
  go_wp2_with fail
  refine (err_nil _).mono ?_
  rintro e w' ⟨rfl, rfl⟩
  go_wp2
  go_ret
  exact ⟨rfl, rfl⟩

theorem int_in_any (g : Nat) (r : Rest) (w : World) (h : At 107 w g r) :
    Calls Try.prog 39 #[.pointer (some ⟨g, 0, none⟩)] w (Gives 107 w g (.int .i64 (rInt r).1) (rInt r).2) := by
  cases r with
  | error x =>
    have H := Lib.hid (err_any g (.error x) w h)
    have hx : ((x : Int) == 0) = false := by rw [beq_eq_false_iff_ne]; have := h.1; omega
    have HA := Lib.hid h
    clear h
    go_enter Try.func39, Try.ntmps39
    go_wp2_with fail
    refine H.out.mono ?_
    rintro e w' ⟨rfl, rfl⟩
    simp only [rErr]
    go_wp2
    go_ret
    exact ⟨rfl, HA.out, Sep.refl _ _ _⟩
  | ok l =>
    have H := Lib.hid (err_any g (.ok l) w h)
    have HA := Lib.hid h
    obtain ⟨t, h1, h2, h3⟩ := h
    have c0 : w.cell? ⟨g, 0, none⟩ = some (.string t) := cell_of_row w g 0 _ _ (0, 0) h3
    have hle := gb_err_le l
    have htk := gb_take_le l
    by_cases hz : (gb l).2.2 = 0
    · have hfin : Gives 107 w g (.int .i64 (rInt (.ok l)).1) (rInt (.ok l)).2 = Gives 107 w g (.int .i64 (gb l).1) (.ok (l.drop (gb l).2.1)) := by simp only [rInt]; rw [if_pos hz]
      rw [hfin]
      have htk2 := htk hz
      have hget : ∀ W : World, Calls Try.prog 66 #[.string t] W fun e w' => e = .returned (.tuple #[.int .i64 (gb l).1, .int .i64 (gb l).2.1, .int .i64 0]) ∧ W = w' := fun W => by
        have := get_any t W h2
        rw [h1, three, hz] at this
        exact this
      generalize gb l = q at *
      have HG := Lib.hid hget
      clear h1 h3 hget hz hle htk hfin
      go_enter Try.func39, Try.ntmps39
      go_wp2_with fail
      refine H.out.mono ?_
      rintro e w' ⟨rfl, rfl⟩
      simp only [rErr]
      go_wp2_with fail
      refine (HG.out _).mono ?_
      rintro e w' ⟨rfl, rfl⟩
      go_wp2_with fail
      refine (take_any g l q.2.1 _ HA.out htk2).mono ?_
      rintro e w' ⟨rfl, k1, k2⟩
      go_wp2
      go_ret
      exact ⟨rfl, k1, k2⟩
    · have hfin : Gives 107 w g (.int .i64 (rInt (.ok l)).1) (rInt (.ok l)).2 = Gives 107 w g (.int .i64 0) (.error (gb l).2.2) := by simp only [rInt]; rw [if_neg hz]
      rw [hfin]
      have hget : ∀ W : World, Calls Try.prog 66 #[.string t] W fun e w' => e = .returned (.tuple #[.int .i64 (gb l).1, .int .i64 (gb l).2.1, .int .i64 (gb l).2.2]) ∧ W = w' := fun W => by
        have := get_any t W h2
        rw [h1, three] at this
        exact this
      have hne : (((gb l).2.2 : Int) == 0) = false := by rw [beq_eq_false_iff_ne]; omega
      have HX : Hid ((gb l).2.2 ≠ 0 ∧ (gb l).2.2 ≤ 100) := ⟨hz, by omega⟩
      generalize gb l = q at *
      have HG := Lib.hid hget
      clear h1 h3 hget hz hle htk hfin
      go_enter Try.func39, Try.ntmps39
      go_wp2_with fail
      refine H.out.mono ?_
      rintro e w' ⟨rfl, rfl⟩
      simp only [rErr]
      go_wp2_with fail
      refine (HG.out _).mono ?_
      rintro e w' ⟨rfl, rfl⟩
      go_wp2_with fail
      refine (fail_any g (.ok l) q.2.2 HX.out _ HA.out).mono ?_
      rintro e w' ⟨rfl, k1, k2⟩
      go_wp2
      go_ret
      exact ⟨rfl, k1, k2⟩

end Go.Proofs.Ytbkfbejbloclgaa.Oct

namespace Go.Proofs.Ytbkfbejbloclgaa.Oct
open Go.RowKit

theorem Sep.same {g : Nat} {a b d : World} (h : Sep g a.heap.size a b) (k : Sep g b.heap.size b d) : Sep g a.heap.size a d :=
  h.trans ⟨k.os, k.tape, k.output, k.size, fun i hi hg => k.block i (Nat.lt_of_lt_of_le hi h.size) hg⟩

theorem length_in_nil (m : Int) (w : World) : Calls Try.prog 69 #[.pointer none, .int .i64 m] w fun e w' => e = .returned (.int .i64 0) ∧ w = w' := by
  go_enter Try.func69, Try.ntmps69
  go_wp2_with fail
  refine (int_in_nil _).mono ?_
  rintro e w' ⟨rfl, rfl⟩
  go_wp2_with fail
  refine (err_nil _).mono ?_
  rintro e w' ⟨rfl, rfl⟩
  go_wp2
  go_ret
  exact ⟨rfl, rfl⟩

set_option maxHeartbeats 400000 in
theorem length_in_any (g : Nat) (m : Int) (r : Rest) (w : World) (h : At 107 w g r) :
    Calls Try.prog 69 #[.pointer (some ⟨g, 0, none⟩), .int .i64 m] w (Gives 107 w g (.int .i64 (rLen m r).1) (rLen m r).2) := by
  have HI := Lib.hid (int_in_any g r w h)
  clear h
  rcases hr : rInt r with ⟨n, r2⟩
  rw [hr] at HI
  cases r2 with
  | error x =>
    have hfin : rLen m r = (0, .error x) := by rw [rLen, hr]
    rw [hfin]
    clear hfin hr
    go_enter Try.func69, Try.ntmps69
    go_wp2_with fail
    refine HI.out.mono ?_
    rintro e w1 ⟨rfl, k1, k2⟩
    have H := Lib.hid (err_any g (.error x) w1 k1)
    have hx : ((x : Int) == 0) = false := by rw [beq_eq_false_iff_ne]; have := k1.1; omega
    have HA := Lib.hid k1
    clear k1
    go_wp2_with fail
    refine H.out.mono ?_
    rintro e w' ⟨rfl, rfl⟩
    simp only [rErr]
    go_wp2
    go_ret
    exact ⟨rfl, HA.out, k2⟩
  | ok l =>
    by_cases h1 : n < 0
    · have hfin : rLen m r = (0, .error 2) := by rw [rLen, hr]; exact if_pos h1
      rw [hfin]
      clear hfin hr
      go_enter Try.func69, Try.ntmps69
      go_wp2_with fail
      refine HI.out.mono ?_
      rintro e w1 ⟨rfl, k1, k2⟩
      have H := Lib.hid (err_any g (.ok l) w1 k1)
      have HA := Lib.hid k1
      clear k1
      go_wp2_with fail
      refine H.out.mono ?_
      rintro e w' ⟨rfl, rfl⟩
      simp only [rErr]
      go_wp2_with fail
      refine (fail_any g (.ok l) 2 ⟨by omega, by omega⟩ _ HA.out).mono ?_
      rintro e w' ⟨rfl, k3, k4⟩
      go_wp2
      go_ret
      exact ⟨rfl, k3, k2.same k4⟩
    · by_cases h2 : m < n
      · have hfin : rLen m r = (0, .error 6) := by rw [rLen, hr]; show (if n < 0 then _ else _) = _; rw [if_neg h1, if_pos h2]
        rw [hfin]
        clear hfin hr
        go_enter Try.func69, Try.ntmps69
        go_wp2_with fail
        refine HI.out.mono ?_
        rintro e w1 ⟨rfl, k1, k2⟩
        have H := Lib.hid (err_any g (.ok l) w1 k1)
        have HA := Lib.hid k1
        clear k1
        go_wp2_with fail
        refine H.out.mono ?_
        rintro e w' ⟨rfl, rfl⟩
        simp only [rErr]
        go_wp2_with fail
        refine (fail_any g (.ok l) 6 ⟨by omega, by omega⟩ _ HA.out).mono ?_
        rintro e w' ⟨rfl, k3, k4⟩
        go_wp2
        go_ret
        exact ⟨rfl, k3, k2.same k4⟩
      · have hfin : rLen m r = (n, .ok l) := by rw [rLen, hr]; show (if n < 0 then _ else _) = _; rw [if_neg h1, if_neg h2]
        rw [hfin]
        clear hfin hr
        go_enter Try.func69, Try.ntmps69
        go_wp2_with fail
        refine HI.out.mono ?_
        rintro e w1 ⟨rfl, k1, k2⟩
        have H := Lib.hid (err_any g (.ok l) w1 k1)
        have HA := Lib.hid k1
        clear k1
        go_wp2_with fail
        refine H.out.mono ?_
        rintro e w' ⟨rfl, rfl⟩
        simp only [rErr]
        go_wp2
        go_ret
        exact ⟨rfl, HA.out, k2⟩

theorem text_in_nil (w : World) : Calls Try.prog 40 #[.pointer none] w fun e w' => e = .returned (.string ⟨#[]⟩) ∧ w = w' := by
  go_enter Try.func40, Try.ntmps40
  go_wp2_with fail
  refine (length_in_nil _ _).mono ?_
  rintro e w' ⟨rfl, rfl⟩
  go_wp2_with fail
  refine (err_nil _).mono ?_
  rintro e w' ⟨rfl, rfl⟩
  go_wp2
  go_ret
  exact ⟨rfl, rfl⟩

theorem rLen_nonneg (m : Int) (r : Rest) : 0 ≤ (rLen m r).1 := by
  unfold rLen
  split
  · simp
  · split
    · simp
    · split
      · simp
      · simp only; omega

set_option maxHeartbeats 400000 in
theorem text_in_any (g : Nat) (r : Rest) (w : World) (h : At 107 w g r) :
    Calls Try.prog 40 #[.pointer (some ⟨g, 0, none⟩)] w (Gives 107 w g (.string ⟨(rText r).1.toArray⟩) (rText r).2) := by
  have HI := Lib.hid (length_in_any g 65536 r w h)
  have hn0 := rLen_nonneg 65536 r
  clear h
  rcases hr : rLen 65536 r with ⟨n, r2⟩
  rw [hr] at HI hn0
  simp only at hn0
  cases r2 with
  | error x =>
    have hfin : rText r = ([], .error x) := by rw [rText, hr]
    rw [hfin]
    clear hfin hr
    go_enter Try.func40, Try.ntmps40
    go_wp2_with fail
    refine HI.out.mono ?_
    rintro e w1 ⟨rfl, k1, k2⟩
    have H := Lib.hid (err_any g (.error x) w1 k1)
    have hx : ((x : Int) == 0) = false := by rw [beq_eq_false_iff_ne]; have := k1.1; omega
    have HA := Lib.hid k1
    clear k1
    go_wp2_with fail
    refine H.out.mono ?_
    rintro e w' ⟨rfl, rfl⟩
    simp only [rErr]
    go_wp2
    go_ret
    exact ⟨rfl, HA.out, k2⟩
  | ok l =>
    by_cases h1 : (l.length : Int) < n
    · have hfin : rText r = ([], .error 3) := by rw [rText, hr]; exact if_pos h1
      rw [hfin]
      clear hfin hr
      go_enter Try.func40, Try.ntmps40
      go_wp2_with fail
      refine HI.out.mono ?_
      rintro e w1 ⟨rfl, k1, k2⟩
      have H := Lib.hid (err_any g (.ok l) w1 k1)
      have HA := Lib.hid k1
      obtain ⟨t, t1, t2, t3⟩ := k1
      have hts : (t.size : Int) < n := by have : t.size = l.length := by rw [← t1]; rfl
                                          omega
      have c0 : w1.cell? ⟨g, 0, none⟩ = some (.string t) := cell_of_row w1 g 0 _ _ (0, 0) t3
      clear t1 t3
      go_wp2_with fail
      refine H.out.mono ?_
      rintro e w' ⟨rfl, rfl⟩
      simp only [rErr]
      go_wp2_with fail
      refine (fail_any g (.ok l) 3 ⟨by omega, by omega⟩ _ HA.out).mono ?_
      rintro e w' ⟨rfl, k3, k4⟩
      go_wp2
      go_ret
      exact ⟨rfl, k3, k2.same k4⟩
    · have hfin : rText r = (l.take n.toNat, .ok (l.drop n.toNat)) := by rw [rText, hr]; exact if_neg h1
      rw [hfin]
      obtain ⟨m, rfl⟩ := Int.eq_ofNat_of_zero_le hn0
      rw [Int.toNat_natCast]
      obtain ⟨q, hq⟩ : ∃ q : ByteArray, q = ⟨(l.take m).toArray⟩ := ⟨_, rfl⟩
      have htake : ∀ W, At 107 W g (.ok l) → Calls Try.prog 68 #[.pointer (some ⟨g, 0, none⟩), .int .i64 m] W (Gives 107 W g (.string q) (.ok (l.drop m))) := fun W hW => by
        rw [hq]; exact take_any g l m W hW (by omega)
      rw [← hq]
      have HT := Lib.hid htake
      clear hfin hr hq htake
      go_enter Try.func40, Try.ntmps40
      go_wp2_with fail
      refine HI.out.mono ?_
      rintro e w1 ⟨rfl, k1, k2⟩
      have H := Lib.hid (err_any g (.ok l) w1 k1)
      have HA := Lib.hid k1
      obtain ⟨t, t1, t2, t3⟩ := k1
      have hts : (m : Int) ≤ (t.size : Int) := by have : t.size = l.length := by rw [← t1]; rfl
                                                  omega
      have c0 : w1.cell? ⟨g, 0, none⟩ = some (.string t) := cell_of_row w1 g 0 _ _ (0, 0) t3
      clear t1 t3
      go_wp2_with fail
      refine H.out.mono ?_
      rintro e w' ⟨rfl, rfl⟩
      simp only [rErr]
      go_wp2_with fail
      refine (HT.out _ HA.out).mono ?_
      rintro e w' ⟨rfl, k3, k4⟩
      go_wp2
      go_ret
      exact ⟨rfl, k3, k2.same k4⟩

/-- A new In. -/
theorem open_any (t : ByteArray) (w : World) :
    Calls Try.prog 38 #[.string t] w fun e w' => e = .returned (.pointer (some ⟨w.heap.size, 0, none⟩)) ∧ w' = w.alloc (.cells #[.string t, .int .i64 0] 107) := by
  go_enter Try.func38, Try.ntmps38
  go_wp2
  go_ret
  exact ⟨rfl, rfl⟩
theorem At.new (T : TypeId) (t : ByteArray) (w : World) (h : t.size ≤ 9223372036854775807) : At T (w.alloc (.cells #[.string t, .int .i64 0] T)) w.heap.size (.ok (bs t)) :=
  ⟨t, rfl, h, heap_alloc_new w _⟩

theorem Drew.own {w w' : World} (h : Drew w w') {base : Nat} {e : TypeId} {size : Nat} {v : Value} {n : Nat} {xs : List Value} (hown : w.ownsRow base e size v n xs) : w'.ownsRow base e size v n xs := by
  obtain ⟨k, rfl⟩ := h
  exact hown
/-- A row is as it was behind a call that turned one block of another kind alone. -/
theorem Sep.own {w w' : World} {g : Nat} (h : Sep g w.heap.size w w') {base : Nat} {e t : TypeId} {size : Nat} {v : Value} {n : Nat} {xs : List Value} {cs : Array Value} {fr : Nat × Nat} (hown : w.ownsRow base e size v n xs) (hg : w.heap[g]? = some (.cells cs t fr)) (hne : e ≠ t) : w'.ownsRow base e size v n xs := by
  refine ⟨hown.1, ?_⟩
  rcases hown.2 with h2 | ⟨r, cp, cur, hv, hbr, hhr, hrest⟩
  · exact .inl h2
  · refine .inr ⟨r, cp, cur, hv, hbr, (h.block r (heap_lt hhr) (fun e2 => ?_)).trans hhr, hrest⟩
    subst e2
    rw [hhr] at hg
    injection hg with hg
    injection hg with _ e3
    exact hne e3

theorem rLen_le (m : Int) (r : Rest) : (rLen m r).1 ≤ m ∨ (rLen m r).1 = 0 := by
  unfold rLen
  split
  · exact .inr rfl
  · split
    · exact .inr rfl
    · split
      · exact .inr rfl
      · simp only; omega
theorem rLen_err (m : Int) (r : Rest) (e : Nat) (h : (rLen m r).2 = .error e) : (rLen m r).1 = 0 := by
  revert h
  unfold rLen
  split
  · simp
  · split
    · simp
    · split <;> simp

theorem At.grown {T : TypeId} {w w' : World} {g : Nat} {r : Rest} {base : Nat} {e : TypeId} {size : Nat} {v : Value} {n : Nat} {xs : List Value} (h : At T w g r) (hg : w.grownBy w' v.ownBlock) (hown : w.ownsRow base e size v n xs) (he : e ≠ T) : At T w' g r := by
  obtain ⟨t, x, hc⟩ := h.cells
  exact h.block ((grown_keeps hg hown hc he).trans hc.symm)

/-- A text as a cell. -/
def strV (l : List UInt8) : Value := .string ⟨l.toArray⟩

theorem strinfo : (Try.prog.info? 9).map (fun i => (i.zero, i.size, i.bytes)) = some (some (.string ByteArray.empty), 1, 16) := by kernel_rfl

/-- Reading texts one behind the other: the first k of them, and how the reader stands. -/
def rStrs (r : Rest) : Nat → List (List UInt8) × Rest
  | 0 => ([], r)
  | k + 1 => ((rStrs r k).1 ++ [(rText (rStrs r k).2).1], (rText (rStrs r k).2).2)
/-- Texts, if none of them was an error. -/
def allStrs : List (List UInt8) × Rest → List (List UInt8) × Rest
  | (_, .error e) => ([], .error e)
  | (zs, .ok l) => (zs, .ok l)
/-- A list of texts. -/
def rTexts (most : Int) (r : Rest) : List (List UInt8) × Rest := allStrs (rStrs (rLen (min most 65536) r).2 (rLen (min most 65536) r).1.toNat)

theorem rStrs_len (r : Rest) (k : Nat) : (rStrs r k).1.length = k := by
  induction k with
  | zero => rfl
  | succ k ih => simp [rStrs, ih]
theorem rStrs_stuck (r : Rest) (k j : Nat) (e : Nat) (h : (rStrs r k).2 = .error e) : (rStrs r (k + j)).2 = .error e := by
  induction j with
  | zero => exact h
  | succ j ih =>
    show (rText (rStrs r (k + j)).2).2 = _
    rw [ih]; rfl
/-- What a call leaves that tells texts. -/
def GivesStrs (T : TypeId) (w : World) (g : Nat) (q : List (List UInt8) × Rest) (e : Ending) (w' : World) : Prop :=
  ∃ A cap, e = .returned (.slice A q.1.length cap) ∧ w'.ownsRow w.heap.size 9 1 (.slice A q.1.length cap) q.1.length (q.1.map strV) ∧ At T w' g q.2 ∧ Sep g w.heap.size w w'

set_option maxRecDepth 100000 in
set_option maxHeartbeats 2000000 in
theorem list_string_any (g : Nat) (m : Int) (r : Rest) (w : World) (h : At 107 w g r) :
    Calls Try.prog 70 #[.pointer (some ⟨g, 0, none⟩), .int .i64 m, .func (.func 40) #[.pointer (some ⟨g, 0, none⟩)] #[]] w (GivesStrs 107 w g (rTexts m r)) := by
  obtain ⟨i0, hi0, hz0, hz1, hz2⟩ := info_parts strinfo
  have hgw := h.lt
  have HL := Lib.hid (length_in_any g (min m 65536) r w h)
  clear h
  have hq : rTexts m r = allStrs (rStrs (rLen (min m 65536) r).2 (rLen (min m 65536) r).1.toNat) := rfl
  have h0 := rLen_nonneg (min m 65536) r
  have h1 := rLen_le (min m 65536) r
  have h2 := rLen_err (min m 65536) r
  have hmin : min m 65536 ≤ 65536 := Int.min_le_right _ _
  generalize rLen (min m 65536) r = q at *
  obtain ⟨n0, r1⟩ := q
  simp only at hq h0 h1 h2
  obtain ⟨N, rfl⟩ := Int.eq_ofNat_of_zero_le h0
  rw [Int.toNat_natCast] at hq
  have hN : N ≤ 65536 := by omega
  have h2' : ∀ e, r1 = .error e → N = 0 := fun e he => by have := h2 e he; omega
  have HQ := Lib.hid hq
  have H2 := Lib.hid h2'
  clear hq h0 h1 h2 h2' hmin
  rw [HQ.out]
  go_enter Try.func70, Try.ntmps70
  go_wp2_with fail
  refine HL.out.mono ?_
  rintro e w1 ⟨rfl, k1, k2⟩
  have K1 := Lib.hid k1
  have K2 := Lib.hid k2
  clear k1 k2
  go_wp2_with fail
  go_loopw [7, 8, 13] (fun v _ i wr => ∃ (k : Nat) (A : Option Addr) (cap : Nat), k ≤ N ∧ i = .int .i64 k ∧ v = .slice A k cap ∧ (∀ e, (rStrs r1 k).2 = .error e → k = 0) ∧ wr.ownsRow w.heap.size 9 1 (.slice A k cap) k ((rStrs r1 k).1.map strV) ∧ At 107 wr g (rStrs r1 k).2 ∧ Sep g w.heap.size w wr) (fun _ _ i _ => N - (intOf i).toNat)
  case atStart => exact ⟨0, none, 0, by omega, rfl, rfl, fun e he => rfl, World.ownsRow_nil _ _ _ _, K1.out, K2.out⟩
  case round =>
    obtain ⟨k, A, cap, hk, rfl, rfl, hok, hown, hat, hsep⟩ := hrel
    have HO := Lib.hid hown
    have HA := Lib.hid hat
    have HS := Lib.hid hsep
    have HK := Lib.hid hok
    have hwr := hsep.size
    clear hown hat hsep hok
    by_cases hlt : (k : Int) < N
    · have HI := Lib.hid (text_in_any g _ _ HA.out)
      rcases hq : rText (rStrs r1 k).2 with ⟨z, r2⟩
      rw [hq] at HI
      have hs1 : rStrs r1 (k + 1) = ((rStrs r1 k).1 ++ [z], r2) := by rw [rStrs, hq]
      have HS1 := Lib.hid hs1
      clear hq hs1
      go_wp2_with fail
      refine HI.out.mono ?_
      rintro e w2 ⟨rfl, k3, k4⟩
      have HE := Lib.hid (err_any g r2 w2 k3)
      obtain ⟨tt, xx, hcg⟩ := At.cells HA.out
      have HO2 := Lib.hid (k4.own HO.out hcg (by decide))
      have HS2 := Lib.hid (HS.out.trans ⟨k4.os, k4.tape, k4.output, k4.size, fun i hi hg => k4.block i (Nat.lt_of_lt_of_le hi hwr) hg⟩)
      have hw2 := Nat.le_trans hwr k4.size
      have HA2 := Lib.hid k3
      clear k3 k4 hcg
      cases r2 with
      | error x =>
        have hx : ((x : Int) == 0) = false := by rw [beq_eq_false_iff_ne]; have := HA2.out.1; omega
        have HE' : Hid (Calls Try.prog 65 #[.pointer (some ⟨g, 0, none⟩)] w2 fun e w' => e = .returned (.int .i64 (x : Int)) ∧ w2 = w') := HE
        go_wp2_with fail
        refine HE'.out.mono ?_
        rintro e w' ⟨rfl, rfl⟩
        go_wp2
        go_ret
        have hst := rStrs_stuck r1 (k + 1) (N - (k + 1)) x (by rw [HS1.out])
        rw [show k + 1 + (N - (k + 1)) = N from by omega] at hst
        have hfin : allStrs (rStrs r1 N) = ([], .error x) := by
          rcases h9 : rStrs r1 N with ⟨a9, b9⟩
          rw [h9] at hst
          simp only at hst
          rw [hst]; rfl
        rw [hfin]
        exact ⟨none, 0, rfl, World.ownsRow_nil _ _ _ _, HA2.out, HS2.out⟩
      | ok l2 =>
        have HE' : Hid (Calls Try.prog 65 #[.pointer (some ⟨g, 0, none⟩)] w2 fun e w' => e = .returned (.int .i64 0) ∧ w2 = w') := HE
        go_wp2_with fail
        refine HE'.out.mono ?_
        rintro e w' ⟨rfl, rfl⟩
        go_wp2_with ((at_builtin; refine wpList_append_own _ rfl _ _ 22 rfl w.heap.size 9 i0 (.string ByteArray.empty) 1 16 Try.underlying22 hi0 hz0 hz1 hz2 rfl (by decide) _ _ _ rfl (HO2.out.alloc _) ⟨w2.heap.size, 0, none⟩ 1 1 [strV z] rfl rfl ?c1 ?c2 ?c3 ?c4 ?c5 ?_))
        case c1 => exact cell_one_new _ _ _
        case c2 => simp [Value.oneCell', strV]
        case c3 => unfold maxLen; omega
        case c4 => omega
        case c5 => simp; omega
        intro v' w4 hown4 hgrow4 _
        have HO4 := Lib.hid hown4
        have HG4 := Lib.hid hgrow4
        clear hown4 hgrow4
        go_wp2
        obtain ⟨A', cap', hv⟩ := slice_of HO4.out
        have hfin : (∃ (k' : Nat) (A : Option Addr) (cap : Nat), k' ≤ N ∧ Value.int .i64 ((k : Int) + 1) = .int .i64 k' ∧ v' = .slice A k' cap ∧ (∀ e, (rStrs r1 k').2 = .error e → k' = 0) ∧ w4.ownsRow w.heap.size 9 1 (.slice A k' cap) k' ((rStrs r1 k').1.map strV) ∧ At 107 w4 g (rStrs r1 k').2 ∧ Sep g w.heap.size w w4) := by
          refine ⟨k + 1, A', cap', by omega, by go_num, hv, ?_, ?_, ?_, ?_⟩
          · intro e he; rw [HS1.out] at he; cases he
          · rw [HS1.out, List.map_append, ← hv]; exact HO4.out
          · rw [HS1.out]
            exact (HA2.out.below ((Below.refl _ _).alloc (Nat.le_refl _) _)).grown HG4.out (HO2.out.alloc _) (by decide)
          · exact (HS2.out.alloc hw2 _).grown HG4.out (by simp; omega) (fun r hr => by
              rcases HO2.out.2 with ⟨h1, _⟩ | ⟨r', cp, cur, h1, h2, _⟩
              · rw [h1] at hr; simp [Value.ownBlock] at hr
              · rw [h1] at hr; simp [Value.ownBlock] at hr; omega)
        exact ⟨hfin, by simp [intOf]; omega⟩
    · have hkN : k = N := by omega
      subst hkN
      go_wp2
      go_ret
      rcases h9 : rStrs r1 k with ⟨a9, b9⟩
      have hlen := rStrs_len r1 k
      rw [h9] at hlen
      simp only at hlen
      have HO9 := HO.out
      have HA9 := HA.out
      have HK9 := HK.out
      rw [h9] at HO9 HA9 HK9
      cases b9 with
      | error x =>
        have hk0 := HK9 x rfl
        subst hk0
        have ha : a9 = [] := List.eq_nil_of_length_eq_zero hlen
        subst ha
        exact ⟨A, cap, rfl, HO9, HA9, HS.out⟩
      | ok l =>
        refine ⟨A, cap, ?_, ?_, HA9, HS.out⟩
        · show _ = Ending.returned (.slice A a9.length cap)
          rw [hlen]; rfl
        · show World.ownsRow _ _ _ _ (.slice A a9.length cap) a9.length _
          rw [hlen]; exact HO9

set_option maxHeartbeats 400000 in
theorem texts_in_any (g : Nat) (m : Int) (r : Rest) (w : World) (h : At 107 w g r) :
    Calls Try.prog 41 #[.pointer (some ⟨g, 0, none⟩), .int .i64 m] w (GivesStrs 107 w g (rTexts m r)) := by
  have H := Lib.hid (list_string_any g m r w h)
  clear h
  go_enter Try.func41, Try.ntmps41
  go_wp2_with fail
  refine H.out.mono ?_
  rintro e w1 ⟨A, cap, rfl, k1, k2, k3⟩
  go_wp2
  go_ret
  exact ⟨A, cap, rfl, k1, k2, k3⟩

end Go.Proofs.Ytbkfbejbloclgaa.Oct
