/-
  The walks of an Out's methods: what each writes, whatever was written before.
-/
import Derived.Test.YtgbpofgmomglfaaDoorMOut2
namespace Go.Proofs.YtgbpofgmomglfaaDoor.Oct
set_option maxRecDepth 100000
open Go.RowKit

/-- The state of an Out: its bytes; or spoilt. -/
def OutSt (w : World) (g c : Nat) : Option (List UInt8) → Prop
  | some l => OutIs w g c l
  | none => g < c ∧ c ≤ w.heap.size ∧ OutBad w g
/-- What a writing call leaves. -/
def Left (w : World) (g c : Nat) (st : Option (List UInt8)) (e : Ending) (w' : World) : Prop := e = .returned (.tuple #[]) ∧ OutSt w' g c st ∧ OSep g c w w'
def app : Option (List UInt8) → Option (List UInt8) → Option (List UInt8)
  | some a, some b => some (a ++ b)
  | _, _ => none
theorem app_none (a : Option (List UInt8)) : app a none = none := by cases a <;> rfl
theorem app_assoc (a b c : Option (List UInt8)) : app (app a b) c = app a (app b c) := by
  cases a <;> cases b <;> cases c <;> simp [app]
def len (st : Option (List UInt8)) : Nat := (st.getD []).length

theorem OutSt.lt {w : World} {g c : Nat} {st : Option (List UInt8)} (h : OutSt w g c st) : g < c ∧ c ≤ w.heap.size := by
  cases st with
  | none => exact ⟨h.1, h.2.1⟩
  | some l => exact ⟨h.1, h.2.1⟩

theorem write_nil (s : ByteArray) (w : World) :
    Calls Tryd.prog 55 #[.pointer none, .string s] w fun e w' => e = .returned (.tuple #[]) ∧ w = w' := by
  go_enter Tryd.func55, Tryd.ntmps55
  go_wp2
  refine bodyPost_ret (results_none rfl _ _ _) rfl ?_
  exact ⟨rfl, rfl⟩

theorem write_bad (g c : Nat) (s : ByteArray) (w : World) (h : OutSt w g c none) :
    Calls Tryd.prog 55 #[.pointer (some ⟨g, 0, none⟩), .string s] w (Left w g c none) := by
  have c2 : w.cell? ⟨g, 2, none⟩ = some (.bool true) := cell_of_row w g 2 _ _ (0, 0) h.2.2
  have H := Lib.hid h
  clear h
  go_enter Tryd.func55, Tryd.ntmps55
  go_wp2
  refine bodyPost_ret (results_none rfl _ _ _) rfl ?_
  exact ⟨rfl, H.out, OSep.refl _ _ _⟩

/-- write, whatever the Out holds. -/
theorem write_any (g c : Nat) (st : Option (List UInt8)) (s : ByteArray) (w : World) (h : OutSt w g c st) (hb : len st + s.size ≤ 140737488355328) :
    Calls Tryd.prog 55 #[.pointer (some ⟨g, 0, none⟩), .string s] w (Left w g c (app st (some (bs s)))) := by
  cases st with
  | none => exact write_bad g c s w h
  | some l =>
    obtain ⟨hgc, hcw, h | h⟩ := h
    · obtain ⟨rfl, hg⟩ := h
      exact (write_first g c s w hgc hcw hg (by simp only [len, Option.getD_some, List.length_nil] at hb; omega)).mono fun e w' h => h
    · obtain ⟨h, A, cap, hch, hg, hh, hown⟩ := h
      exact (write_more g c h A cap l s w hgc hcw hch hg hh hown (by simpa [len] using hb)).mono fun e w' h => h

theorem spoil_nil (w : World) :
    Calls Tryd.prog 54 #[.pointer none] w fun e w' => e = .returned (.tuple #[]) ∧ w = w' := by
  go_enter Tryd.func54, Tryd.ntmps54
  go_wp2
  go_end0
  exact ⟨rfl, rfl⟩

theorem OutSt.cells {w : World} {g c : Nat} {st : Option (List UInt8)} (h : OutSt w g c st) : ∃ p n b, w.heap[g]? = some (obj p n b) := by
  cases st with
  | none => exact ⟨_, _, _, h.2.2⟩
  | some l =>
    rcases h.2.2 with h | ⟨_, _, _, _, h, _⟩
    · exact ⟨_, _, _, h.2⟩
    · exact ⟨_, _, _, h⟩

set_option maxHeartbeats 400000 in
theorem spoil_any (g c : Nat) (st : Option (List UInt8)) (w : World) (h : OutSt w g c st) :
    Calls Tryd.prog 54 #[.pointer (some ⟨g, 0, none⟩)] w (Left w g c none) := by
  obtain ⟨p, n, b, hg⟩ := h.cells
  obtain ⟨hgc, hcw⟩ := h.lt
  have c0 : w.cell? ⟨g, 0, none⟩ = some p := cell_of_row w g 0 _ _ (0, 0) hg
  have c1 : w.cell? ⟨g, 1, none⟩ = some n := cell_of_row w g 1 _ _ (0, 0) hg
  have c2 : w.cell? ⟨g, 2, none⟩ = some b := cell_of_row w g 2 _ _ (0, 0) hg
  have f0 : ∀ i, w.frozen? ⟨g, i, none⟩ = false := fun i => by simp [World.frozen?, hg, obj]
  have HG := Lib.hid hg
  clear hg h
  go_enter Tryd.func54, Tryd.ntmps54
  go_wp2
  go_end0
  refine ⟨rfl, ⟨hgc, by simpa [World.setCell] using hcw, ?_⟩, OSep.setCell (p := ⟨g, 2, none⟩) (OSep.setCell (p := ⟨g, 1, none⟩) (OSep.setCell (p := ⟨g, 0, none⟩) (OSep.refl g c w) (.inl rfl) HG.out (.inr (.inr rfl)) _) (.inl rfl) (heap_set HG.out 0 _) (.inr (.inr rfl)) _) (.inl rfl) (heap_set (heap_set HG.out 0 _) 1 _) (.inr (.inr rfl)) _⟩
  exact heap_set (heap_set (heap_set HG.out 0 _) 1 _) 2 _

def rng (n : Int) : Prop := n < -9007199254740992 ∨ 9007199254740992 < n
instance (n : Int) : Decidable (rng n) := by unfold rng; infer_instance
/-- The bytes of a number, if it has any. -/
def eInt (n : Int) : Option (List UInt8) := if rng n then none else some (pb n)
theorem pb_ne (n : Int) (h : ¬ rng n) : pb n ≠ [] := by
  unfold rng at h
  rw [pb, if_neg h]; simp
theorem pb_no (n : Int) (h : rng n) : pb n = [] := by
  unfold rng at h
  rw [pb, if_pos h]
theorem pb_len (n : Int) : (pb n).length ≤ 8 := by
  unfold pb
  split
  · simp
  · have := wid7 n.natAbs (by omega)
    simp [be_length]; omega

set_option maxHeartbeats 400000 in
theorem int_nil (n : Int) (w : World) :
    Calls Tryd.prog 28 #[.pointer none, .int .i64 n] w fun e w' => e = .returned (.tuple #[]) ∧ Below w.heap.size w w' := by
  obtain ⟨s, hs⟩ : ∃ s : ByteArray, s = ⟨(pb n).toArray⟩ := ⟨_, rfl⟩
  have hc : ∀ W : World, Calls Tryd.prog 53 #[.int .i64 n] W fun e w' => e = .returned (.string s) ∧ Below W.heap.size W w' := by intro W; rw [hs]; exact put_any n W
  have HC := Lib.hid hc
  clear hc hs
  cases h : s.toList.isEmpty with
  | true =>
    go_enter Tryd.func28, Tryd.ntmps28
    go_wp2_with fail
    refine (HC.out _).mono ?_
    rintro e w' ⟨rfl, hb⟩
    go_wp2_with fail
    refine (spoil_nil _).mono ?_
    rintro e w' ⟨rfl, rfl⟩
    go_wp2
    refine bodyPost_ret (results_none rfl _ _ _) rfl ?_
    exact ⟨rfl, hb⟩
  | false =>
    go_enter Tryd.func28, Tryd.ntmps28
    go_wp2_with fail
    refine (HC.out _).mono ?_
    rintro e w' ⟨rfl, hb⟩
    go_wp2_with fail
    refine (write_nil _ _).mono ?_
    rintro e w' ⟨rfl, rfl⟩
    go_wp2
    go_end0
    exact ⟨rfl, hb⟩

theorem OutSt.below {w w' : World} {g c : Nat} {st : Option (List UInt8)} (h : OutSt w g c st) (hb : Below w.heap.size w w') : OutSt w' g c st := by
  obtain ⟨hgc, hcw⟩ := h.lt
  have hs := hb.size
  cases st with
  | none => exact ⟨hgc, by omega, (hb.block g (heap_lt h.2.2)).trans h.2.2⟩
  | some l =>
    refine ⟨hgc, by omega, ?_⟩
    rcases h.2.2 with ⟨h1, h2⟩ | ⟨k, A, cap, hk, hg, hh, hown⟩
    · exact .inl ⟨h1, (hb.block g (heap_lt h2)).trans h2⟩
    · refine .inr ⟨k, A, cap, hk, (hb.block g (heap_lt hg)).trans hg, (hb.block k (heap_lt hh)).trans hh, hown.1, ?_⟩
      rcases hown.2 with h2 | ⟨r, cp, cur, hv, hbr, hhr, hrest⟩
      · exact .inl h2
      · exact .inr ⟨r, cp, cur, hv, hbr, (hb.block r (heap_lt hhr)).trans hhr, hrest⟩

set_option maxHeartbeats 400000 in
theorem int_any (g c : Nat) (st : Option (List UInt8)) (n : Int) (w : World) (h : OutSt w g c st) (hb : len st + 8 ≤ 140737488355328) :
    Calls Tryd.prog 28 #[.pointer (some ⟨g, 0, none⟩), .int .i64 n] w (Left w g c (app st (eInt n))) := by
  obtain ⟨s, hs⟩ : ∃ s : ByteArray, s = ⟨(pb n).toArray⟩ := ⟨_, rfl⟩
  have hc : ∀ W : World, Calls Tryd.prog 53 #[.int .i64 n] W fun e w' => e = .returned (.string s) ∧ Below W.heap.size W w' := by intro W; rw [hs]; exact put_any n W
  have hl : s.toList = pb n := by rw [hs, ByteArray.toList_mk]
  have hl' : bs s = pb n := by rw [hs]
  have hsz : s.size ≤ 8 := by rw [← bs_length, hl']; exact pb_len n
  have HC := Lib.hid hc
  have HL := Lib.hid hl'
  have HS := Lib.hid h
  have hcw := h.lt.2
  by_cases hr : rng n
  · have he : s.toList.isEmpty = true := by rw [hl, pb_no n hr]; rfl
    have hfin : app st (eInt n) = none := by rw [eInt, if_pos hr, app_none]
    rw [hfin]
    clear hc hs hl hl' hr hfin h
    go_enter Tryd.func28, Tryd.ntmps28
    go_wp2_with fail
    refine (HC.out _).mono ?_
    rintro e w1 ⟨rfl, hb1⟩
    go_wp2_with fail
    refine (spoil_any g c st _ (HS.out.below hb1)).mono ?_
    rintro e w2 ⟨rfl, h2, h3⟩
    go_wp2
    refine bodyPost_ret (results_none rfl _ _ _) rfl ?_
    exact ⟨rfl, h2, (OSep.of_below hb1 hcw).trans h3⟩
  · have he : s.toList.isEmpty = false := by
      rw [hl]
      cases h5 : pb n with
      | nil => exact absurd h5 (pb_ne n hr)
      | cons a b => rfl
    have hfin : app st (eInt n) = app st (some (bs s)) := by rw [eInt, if_neg hr, hl']
    rw [hfin]
    clear hc hs hl hl' hr hfin h
    go_enter Tryd.func28, Tryd.ntmps28
    go_wp2_with fail
    refine (HC.out _).mono ?_
    rintro e w1 ⟨rfl, hb1⟩
    go_wp2_with fail
    refine (write_any g c st s _ (HS.out.below hb1) (by omega)).mono ?_
    rintro e w2 ⟨rfl, h2, h3⟩
    go_wp2
    go_end0
    exact ⟨rfl, h2, (OSep.of_below hb1 hcw).trans h3⟩

end Go.Proofs.YtgbpofgmomglfaaDoor.Oct
