/-
  What an In holds, and the walks of its methods.
-/
import Derived.Test.YtgbpofgmomglfaaDoorMOutB
import Derived.Lib.IndexBytes
namespace Go.Proofs.YtgbpofgmomglfaaDoor.Oct
set_option maxRecDepth 100000
open Go.RowKit

/-- What is left to be read, or the first error. -/
abbrev Rest := Except Nat (List UInt8)
/-- Block g is a reader of type T that stands so. -/
def At (T : TypeId) (w : World) (g : Nat) : Rest → Prop
  | .ok l => ∃ t : ByteArray, bs t = l ∧ t.size ≤ 9223372036854775807 ∧ w.heap[g]? = some (.cells #[.string t, .int .i64 0] T (0, 0))
  | .error e => e ≠ 0 ∧ e ≤ 100 ∧ ∃ t : ByteArray, w.heap[g]? = some (.cells #[.string t, .int .i64 e] T (0, 0))
theorem At.block {T : TypeId} {w w' : World} {g : Nat} {r : Rest} (h : At T w g r) (hb : w'.heap[g]? = w.heap[g]?) : At T w' g r := by
  cases r with
  | ok l => obtain ⟨t, h1, h2, h3⟩ := h; exact ⟨t, h1, h2, hb.trans h3⟩
  | error e => obtain ⟨h0, h1, t, h2⟩ := h; exact ⟨h0, h1, t, hb.trans h2⟩
theorem At.lt {T : TypeId} {w : World} {g : Nat} {r : Rest} (h : At T w g r) : g < w.heap.size := by
  cases r with
  | ok l => obtain ⟨t, h1, h2, h3⟩ := h; exact heap_lt h3
  | error e => obtain ⟨h0, h1, t, h2⟩ := h; exact heap_lt h2
theorem At.below {T : TypeId} {w w' : World} {g : Nat} {r : Rest} (h : At T w g r) (hb : Below w.heap.size w w') : At T w' g r := h.block (hb.block g h.lt)

def rInt : Rest → Int × Rest
  | .error e => (0, .error e)
  | .ok l => if (gb l).2.2 = 0 then ((gb l).1, .ok (l.drop (gb l).2.1)) else (0, .error (gb l).2.2)
def rBool : Rest → Bool × Rest
  | .error e => (false, .error e)
  | .ok [] => (false, .error 3)
  | .ok (c :: l) => if 1 < c.toNat then (false, .error 2) else (c == 1, .ok l)
def rErr : Rest → Nat
  | .error e => e
  | .ok _ => 0
def rEnd : Rest → Nat
  | .error e => e
  | .ok [] => 0
  | .ok (_ :: _) => 4
def rLen (most : Int) (r : Rest) : Int × Rest :=
  match rInt r with
  | (_, .error e) => (0, .error e)
  | (n, .ok l) => if n < 0 then (0, .error 2) else if most < n then (0, .error 6) else (n, .ok l)
def rText (r : Rest) : List UInt8 × Rest :=
  match rLen 65536 r with
  | (_, .error e) => ([], .error e)
  | (n, .ok l) => if (l.length : Int) < n then ([], .error 3) else (l.take n.toNat, .ok (l.drop n.toNat))

/-- What a reading call leaves. -/
def Gives (T : TypeId) (w : World) (g : Nat) (v : Value) (r : Rest) (e : Ending) (w' : World) : Prop := e = .returned v ∧ At T w' g r ∧ Sep g w.heap.size w w'

theorem gb_err_le (l : List UInt8) : (gb l).2.2 ≤ 3 := by
  unfold gb
  split
  · simp
  · simp only
    split
    · simp
    · split
      · simp
      · split <;> simp
theorem gb_take_le (l : List UInt8) (h : (gb l).2.2 = 0) : (gb l).2.1 ≤ l.length := by
  revert h
  unfold gb
  split
  · simp
  · simp only
    split
    · simp
    · split
      · simp
      · split
        · simp
        · simp only [List.length_cons]
          omega

theorem err_nil (w : World) : Calls Tryd.prog 62 #[.pointer none] w fun e w' => e = .returned (.int .i64 1) ∧ w = w' := by
  go_enter Tryd.func62, Tryd.ntmps62
  go_wp2
  go_ret
  exact ⟨rfl, rfl⟩
theorem err_cell (g : Nat) (t : ByteArray) (x : Int) (w : World) (h : w.heap[g]? = some (.cells #[.string t, .int .i64 x] 138 (0, 0))) :
    Calls Tryd.prog 62 #[.pointer (some ⟨g, 0, none⟩)] w fun e w' => e = .returned (.int .i64 x) ∧ w = w' := by
  have c1 : w.cell? ⟨g, 1, none⟩ = some (.int .i64 x) := cell_of_row w g 1 _ _ (0, 0) h
  clear h
  go_enter Tryd.func62, Tryd.ntmps62
  go_wp2
  go_ret
  exact ⟨rfl, rfl⟩
theorem err_any (g : Nat) (r : Rest) (w : World) (h : At 138 w g r) :
    Calls Tryd.prog 62 #[.pointer (some ⟨g, 0, none⟩)] w fun e w' => e = .returned (.int .i64 (rErr r)) ∧ w = w' := by
  cases r with
  | ok l => obtain ⟨t, h1, h2, h3⟩ := h; exact err_cell g t 0 w h3
  | error e => obtain ⟨h0, h1, t, h2⟩ := h; exact err_cell g t e w h2

theorem end_nil (w : World) : Calls Tryd.prog 63 #[.pointer none] w fun e w' => e = .returned (.int .i64 1) ∧ w = w' := by
  go_enter Tryd.func63, Tryd.ntmps63
  go_wp2_with fail
  refine (err_nil _).mono ?_
  rintro e w' ⟨rfl, rfl⟩
  go_wp2
  go_ret
  exact ⟨rfl, rfl⟩
theorem end_any (g : Nat) (r : Rest) (w : World) (h : At 138 w g r) :
    Calls Tryd.prog 63 #[.pointer (some ⟨g, 0, none⟩)] w fun e w' => e = .returned (.int .i64 (rEnd r)) ∧ w = w' := by
  cases r with
  | error x =>
    have H := Lib.hid (err_any g (.error x) w h)
    have hx : ((x : Int) == 0) = false := by rw [beq_eq_false_iff_ne]; have := h.1; omega
    clear h
    show Calls _ _ _ _ fun e w' => e = .returned (.int .i64 (x : Int)) ∧ w = w'
    go_enter Tryd.func63, Tryd.ntmps63
    go_wp2_with fail
    refine H.out.mono ?_
    rintro e w' ⟨rfl, rfl⟩
    simp only [rErr]
    go_wp2
    go_ret
    exact ⟨rfl, rfl⟩
  | ok l =>
    have H := Lib.hid (err_any g (.ok l) w h)
    obtain ⟨t, h1, h2, h3⟩ := h
    have c0 : w.cell? ⟨g, 0, none⟩ = some (.string t) := cell_of_row w g 0 _ _ (0, 0) h3
    have htl : t.toList = l := by rw [ByteArray.toList_eq]; exact h1
    cases l with
    | nil =>
      have he : t.toList.isEmpty = true := by rw [htl]; rfl
      show Calls _ _ _ _ fun e w' => e = .returned (.int .i64 0) ∧ w = w'
      clear h1 h3 htl
      go_enter Tryd.func63, Tryd.ntmps63
      go_wp2_with fail
      refine H.out.mono ?_
      rintro e w' ⟨rfl, rfl⟩
      simp only [rErr]
      go_wp2
      go_ret
      exact ⟨rfl, rfl⟩
    | cons a b =>
      have he : t.toList.isEmpty = false := by rw [htl]; rfl
      show Calls _ _ _ _ fun e w' => e = .returned (.int .i64 4) ∧ w = w'
      clear h1 h3 htl
      go_enter Tryd.func63, Tryd.ntmps63
      go_wp2_with fail
      refine H.out.mono ?_
      rintro e w' ⟨rfl, rfl⟩
      simp only [rErr]
      go_wp2
      go_ret
      exact ⟨rfl, rfl⟩

theorem At.cells {T : TypeId} {w : World} {g : Nat} {r : Rest} (h : At T w g r) : ∃ (t : ByteArray) (x : Int), w.heap[g]? = some (.cells #[.string t, .int .i64 x] T (0, 0)) := by
  cases r with
  | ok l => obtain ⟨t, _, _, h3⟩ := h; exact ⟨t, 0, h3⟩
  | error e => obtain ⟨_, _, t, h2⟩ := h; exact ⟨t, e, h2⟩

theorem fail_any (g : Nat) (r : Rest) (x : Nat) (hx : x ≠ 0 ∧ x ≤ 100) (w : World) (h : At 138 w g r) :
    Calls Tryd.prog 70 #[.pointer (some ⟨g, 0, none⟩), .int .i64 x] w (Gives 138 w g (.tuple #[]) (.error x)) := by
  obtain ⟨t, y, h3⟩ := h.cells
  have c0 : w.cell? ⟨g, 0, none⟩ = some (.string t) := cell_of_row w g 0 _ _ (0, 0) h3
  have c1 : w.cell? ⟨g, 1, none⟩ = some (.int .i64 y) := cell_of_row w g 1 _ _ (0, 0) h3
  have f0 : ∀ i, w.frozen? ⟨g, i, none⟩ = false := fun i => by simp [World.frozen?, h3]
  have H := Lib.hid h3
  have HX := Lib.hid hx
  clear h3 hx h
  go_enter Tryd.func70, Tryd.ntmps70
  go_wp2
  go_end0
  refine ⟨rfl, ⟨HX.out.1, HX.out.2, ⟨#[]⟩, ?_⟩, Sep.setCell (p := ⟨g, 1, none⟩) (Sep.setCell (p := ⟨g, 0, none⟩) (Sep.refl g _ w) (.inl rfl) _) (.inl rfl) _⟩
  exact heap_set (heap_set H.out 0 _) 1 _

theorem take_any (g : Nat) (l : List UInt8) (n : Nat) (w : World) (h : At 138 w g (.ok l)) (hn : n ≤ l.length) :
    Calls Tryd.prog 71 #[.pointer (some ⟨g, 0, none⟩), .int .i64 n] w (Gives 138 w g (.string ⟨(l.take n).toArray⟩) (.ok (l.drop n))) := by
  obtain ⟨t, h1, h2, h3⟩ := h
  have hs : n ≤ t.size := by rw [← bs_length, h1]; exact hn
  have c0 : w.cell? ⟨g, 0, none⟩ = some (.string t) := cell_of_row w g 0 _ _ (0, 0) h3
  have f0 : w.frozen? ⟨g, 0, none⟩ = false := by simp [World.frozen?, h3]
  obtain ⟨a, ha⟩ : ∃ a, a = t.extract 0 n := ⟨_, rfl⟩
  obtain ⟨b, hb⟩ : ∃ b, b = t.extract n t.size := ⟨_, rfl⟩
  have s1 : ∀ W : World, (Instr.slice 9 (.string t) none (some (.int .i64 (n : Int))) none).run Tryd.prog W = .ok (.string a) W := by
    intro W
    rw [run_slice_string_h W 9 t Tryd.underlying9 .i64 _ (by omega) (by omega), ha]
    rfl
  have s2 : ∀ W : World, (Instr.slice 9 (.string t) (some (.int .i64 (n : Int))) none none).run Tryd.prog W = .ok (.string b) W := by
    intro W
    rw [run_slice_string_l W 9 t Tryd.underlying9 .i64 _ (by omega) (by omega), hb]
    rfl
  have e1 : (⟨(l.take n).toArray⟩ : ByteArray) = a := by
    have : bs a = l.take n := by rw [ha, ← h1]; show (t.extract 0 n).data.toList = _; rw [Lib.extract_data]; rfl
    rw [← this]
  have e2 : bs b = l.drop n := by rw [hb, ← h1]; exact Lib.extract_to_end t n
  have e3 : b.size ≤ 9223372036854775807 := by
    have : b.size = (l.drop n).length := by rw [← e2]; rfl
    have h4 : t.size = l.length := by rw [← h1]; rfl
    rw [List.length_drop] at this
    omega
  rw [e1]
  have H := Lib.hid h3
  have E2 := Lib.hid e2
  clear h3 h1 ha hb e1 e2
  go_enter Tryd.func71, Tryd.ntmps71
  go_wp2
  go_ret
  exact ⟨rfl, ⟨b, E2.out, e3, heap_set H.out 0 _⟩, Sep.setCell (p := ⟨g, 0, none⟩) (Sep.refl g _ w) (.inl rfl) _⟩

theorem int_in_nil (w : World) : Calls Tryd.prog 61 #[.pointer none] w fun e w' => e = .returned (.int .i64 0) ∧ w = w' := by
  go_enter Tryd.func61, Tryd.ntmps61
  go_wp2_with fail
  refine (err_nil _).mono ?_
  rintro e w' ⟨rfl, rfl⟩
  go_wp2
  go_ret
  exact ⟨rfl, rfl⟩

theorem int_in_any (g : Nat) (r : Rest) (w : World) (h : At 138 w g r) :
    Calls Tryd.prog 61 #[.pointer (some ⟨g, 0, none⟩)] w (Gives 138 w g (.int .i64 (rInt r).1) (rInt r).2) := by
  cases r with
  | error x =>
    have H := Lib.hid (err_any g (.error x) w h)
    have hx : ((x : Int) == 0) = false := by rw [beq_eq_false_iff_ne]; have := h.1; omega
    have HA := Lib.hid h
    clear h
    go_enter Tryd.func61, Tryd.ntmps61
    go_wp2_with fail
    refine H.out.mono ?_
    rintro e w' ⟨rfl, rfl⟩
    simp only [rErr]
    go_wp2
    go_ret
    exact ⟨rfl, HA.out, Sep.refl _ _ _⟩
  | ok l =>
    have H := Lib.hid (err_any g (.ok l) w h)
    have HA := Lib.hid h
    obtain ⟨t, h1, h2, h3⟩ := h
    have c0 : w.cell? ⟨g, 0, none⟩ = some (.string t) := cell_of_row w g 0 _ _ (0, 0) h3
    have hle := gb_err_le l
    have htk := gb_take_le l
    by_cases hz : (gb l).2.2 = 0
    · have hfin : Gives 138 w g (.int .i64 (rInt (.ok l)).1) (rInt (.ok l)).2 = Gives 138 w g (.int .i64 (gb l).1) (.ok (l.drop (gb l).2.1)) := by simp only [rInt]; rw [if_pos hz]
      rw [hfin]
      have htk2 := htk hz
      have hget : ∀ W : World, Calls Tryd.prog 59 #[.string t] W fun e w' => e = .returned (.tuple #[.int .i64 (gb l).1, .int .i64 (gb l).2.1, .int .i64 0]) ∧ W = w' := fun W => by
        have := get_any t W h2
        rw [h1, three, hz] at this
        exact this
      generalize gb l = q at *
      have HG := Lib.hid hget
      clear h1 h3 hget hz hle htk hfin
      go_enter Tryd.func61, Tryd.ntmps61
      go_wp2_with fail
      refine H.out.mono ?_
      rintro e w' ⟨rfl, rfl⟩
      simp only [rErr]
      go_wp2_with fail
      refine (HG.out _).mono ?_
      rintro e w' ⟨rfl, rfl⟩
      go_wp2_with fail
      refine (take_any g l q.2.1 _ HA.out htk2).mono ?_
      rintro e w' ⟨rfl, k1, k2⟩
      go_wp2
      go_ret
      exact ⟨rfl, k1, k2⟩
    · have hfin : Gives 138 w g (.int .i64 (rInt (.ok l)).1) (rInt (.ok l)).2 = Gives 138 w g (.int .i64 0) (.error (gb l).2.2) := by simp only [rInt]; rw [if_neg hz]
      rw [hfin]
      have hget : ∀ W : World, Calls Tryd.prog 59 #[.string t] W fun e w' => e = .returned (.tuple #[.int .i64 (gb l).1, .int .i64 (gb l).2.1, .int .i64 (gb l).2.2]) ∧ W = w' := fun W => by
        have := get_any t W h2
        rw [h1, three] at this
        exact this
      have hne : (((gb l).2.2 : Int) == 0) = false := by rw [beq_eq_false_iff_ne]; omega
      have HX : Hid ((gb l).2.2 ≠ 0 ∧ (gb l).2.2 ≤ 100) := ⟨hz, by omega⟩
      generalize gb l = q at *
      have HG := Lib.hid hget
      clear h1 h3 hget hz hle htk hfin
      go_enter Tryd.func61, Tryd.ntmps61
      go_wp2_with fail
      refine H.out.mono ?_
      rintro e w' ⟨rfl, rfl⟩
      simp only [rErr]
      go_wp2_with fail
      refine (HG.out _).mono ?_
      rintro e w' ⟨rfl, rfl⟩
      go_wp2_with fail
      refine (fail_any g (.ok l) q.2.2 HX.out _ HA.out).mono ?_
      rintro e w' ⟨rfl, k1, k2⟩
      go_wp2
      go_ret
      exact ⟨rfl, k1, k2⟩

end Go.Proofs.YtgbpofgmomglfaaDoor.Oct
