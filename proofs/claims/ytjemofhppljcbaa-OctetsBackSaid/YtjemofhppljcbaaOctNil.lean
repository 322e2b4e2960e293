/-
  The walks of the lists of no In; of an item that goes to no Out.
-/
import Derived.Test.YtjemofhppljcbaaOctLists
namespace Go.Proofs.Ytjemofhppljcbaa.Oct
open Go.RowKit

theorem list_int_nil (m : Int) (f : Value) (w : World) :
    Calls Try.prog 45 #[.pointer none, .int .i64 m, f] w fun e w' => e = .returned (.slice none 0 0) ∧ w = w' := by
  go_enter Try.func45, Try.ntmps45
  go_wp2_with fail
  refine (length_in_nil _ _).mono ?_
  rintro e w' ⟨rfl, rfl⟩
  go_wp2_with fail
  refine wp_loop_rounds 1 ?_
  rw [rounds_succ]
  go_wp2
  go_ret
  exact ⟨rfl, rfl⟩
theorem list_string_nil (m : Int) (f : Value) (w : World) :
    Calls Try.prog 46 #[.pointer none, .int .i64 m, f] w fun e w' => e = .returned (.slice none 0 0) ∧ w = w' := by
  go_enter Try.func46, Try.ntmps46
  go_wp2_with fail
  refine (length_in_nil _ _).mono ?_
  rintro e w' ⟨rfl, rfl⟩
  go_wp2_with fail
  refine wp_loop_rounds 1 ?_
  rw [rounds_succ]
  go_wp2
  go_ret
  exact ⟨rfl, rfl⟩
theorem ints_in_nil (m : Int) (w : World) :
    Calls Try.prog 29 #[.pointer none, .int .i64 m] w fun e w' => e = .returned (.slice none 0 0) ∧ w = w' := by
  go_enter Try.func29, Try.ntmps29
  go_wp2_with fail
  refine (list_int_nil _ _ _).mono ?_
  rintro e w' ⟨rfl, rfl⟩
  go_wp2
  go_ret
  exact ⟨rfl, rfl⟩
theorem texts_in_nil (m : Int) (w : World) :
    Calls Try.prog 31 #[.pointer none, .int .i64 m] w fun e w' => e = .returned (.slice none 0 0) ∧ w = w' := by
  go_enter Try.func31, Try.ntmps31
  go_wp2_with fail
  refine (list_string_nil _ _ _).mono ?_
  rintro e w' ⟨rfl, rfl⟩
  go_wp2
  go_ret
  exact ⟨rfl, rfl⟩

theorem Strs.below {w w' : World} {a : Option Addr} {len : Nat} {zs : List ByteArray} (h : Strs w a len zs) (hb : Below w.heap.size w w') : Strs w' a len zs :=
  ⟨h.1, fun hl => by
    obtain ⟨b, off, ha, hlt, hc⟩ := h.2 hl
    exact ⟨b, off, ha, Nat.lt_of_lt_of_le hlt hb.size, fun i hi => (hb.cell (p := ⟨b, off + i, none⟩) hlt).trans (hc i hi)⟩⟩

theorem tmod_bd5 (x : Int) : -4 ≤ x.tmod 5 ∧ x.tmod 5 ≤ 4 := by
  have h := Int.natAbs_tmod x 5
  have : (5 : Int).natAbs = 5 := rfl
  rw [this] at h
  omega
/-- The kind of an item. -/
def kindOf (k : Int) : Int := (k.tmod 5 + 5) % 5
theorem kindOf_bd (k : Int) : 0 ≤ kindOf k ∧ kindOf k ≤ 4 := by unfold kindOf; omega

set_option maxHeartbeats 400000 in
theorem kind_any (k n : Int) (b : Bool) (t : ByteArray) (v4 v5 : Value) (w : World) :
    Calls Try.prog 16 #[.agg #[.int .i64 k, .int .i64 n, .bool b, .string t, v4, v5]] w fun e w' => e = .returned (.int .i64 (kindOf k)) ∧ Below w.heap.size w w' := by
  obtain ⟨h1, h2⟩ := tmod_bd5 k
  go_enter Try.func16, Try.ntmps16
  go_wp2
  go_ret
  exact ⟨rfl, (Below.refl _ _).alloc (Nat.le_refl _) _⟩

set_option maxHeartbeats 1000000 in
/-- An item that goes to no Out. -/
theorem item_nil (k n : Int) (b : Bool) (t : ByteArray) (ia sa : Option Addr) (il ic sl sc : Nat) (zs : List Int) (ss : List ByteArray) (w : World) (hn : Nums w ia il zs) (hs : Strs w sa sl ss) :
    Calls Try.prog 15 #[.pointer none, .agg #[.int .i64 k, .int .i64 n, .bool b, .string t, .slice ia il ic, .slice sa sl sc]] w fun e w' => e = .returned (.tuple #[]) ∧ Below w.heap.size w w' := by
  have HN := Lib.hid hn
  have HS := Lib.hid hs
  clear hn hs
  obtain ⟨b1, b2⟩ := kindOf_bd k
  have hk : kindOf k = 0 ∨ kindOf k = 1 ∨ kindOf k = 2 ∨ kindOf k = 3 ∨ kindOf k = 4 := by omega
  have HK : Hid (∀ W : World, Calls Try.prog 16 #[.agg #[.int .i64 k, .int .i64 n, .bool b, .string t, .slice ia il ic, .slice sa sl sc]] W fun e w' => e = .returned (.int .i64 (kindOf k)) ∧ Below W.heap.size W w') := fun W => kind_any k n b t _ _ W
  generalize kindOf k = kd at *
  have hc : ∀ (i : Nat) (W : World), Below (w.heap.size + 1) (w.alloc (.cells #[.int .i64 k, .int .i64 n, .bool b, .string t, .slice ia il ic, .slice sa sl sc] 39)) W →
      W.cell? ⟨w.heap.size, i, none⟩ = (#[.int .i64 k, .int .i64 n, .bool b, .string t, .slice ia il ic, .slice sa sl sc] : Array Value)[i]? := fun i W hW =>
    (hW.cell (p := ⟨w.heap.size, i, none⟩) (by simp)).trans (cell_of_row _ _ i _ _ _ (heap_alloc_new w _))
  have HCC := Lib.hid hc
  clear hc b1 b2
  rcases hk with rfl | rfl | rfl | rfl | rfl
  · go_enter Try.func15, Try.ntmps15
    go_wp2_with fail
    refine (HK.out _).mono ?_
    rintro e w1 ⟨rfl, k1⟩
    have c1 := HCC.out 1 w1 (k1.mono (by simp))
    have B1 := Lib.hid ((((Below.refl w.heap.size w).alloc (Nat.le_refl _) _).trans (k1.mono (by simp))))
    clear k1
    go_wp2_with fail
    refine (int_nil _ _).mono ?_
    rintro e w2 ⟨rfl, k2⟩
    have B2 := Lib.hid (B1.out.trans (k2.mono B1.out.size))
    clear k2
    go_wp2
    go_end0
    exact ⟨rfl, B2.out⟩
  · go_enter Try.func15, Try.ntmps15
    go_wp2_with fail
    refine (HK.out _).mono ?_
    rintro e w1 ⟨rfl, k1⟩
    have c1 := HCC.out 2 w1 (k1.mono (by simp))
    have B1 := Lib.hid ((((Below.refl w.heap.size w).alloc (Nat.le_refl _) _).trans (k1.mono (by simp))))
    clear k1
    go_wp2_with fail
    refine (bool_nil _ _).mono ?_
    rintro e w2 ⟨rfl, rfl⟩
    go_wp2
    go_end0
    exact ⟨rfl, B1.out⟩
  · go_enter Try.func15, Try.ntmps15
    go_wp2_with fail
    refine (HK.out _).mono ?_
    rintro e w1 ⟨rfl, k1⟩
    have c1 := HCC.out 3 w1 (k1.mono (by simp))
    have B1 := Lib.hid ((((Below.refl w.heap.size w).alloc (Nat.le_refl _) _).trans (k1.mono (by simp))))
    clear k1
    go_wp2_with fail
    refine (text_nil _ _).mono ?_
    rintro e w2 ⟨rfl, k2⟩
    have B2 := Lib.hid (B1.out.trans (k2.mono B1.out.size))
    clear k2
    go_wp2
    go_end0
    exact ⟨rfl, B2.out⟩
  · go_enter Try.func15, Try.ntmps15
    go_wp2_with fail
    refine (HK.out _).mono ?_
    rintro e w1 ⟨rfl, k1⟩
    have c1 := HCC.out 4 w1 (k1.mono (by simp))
    have B1 := Lib.hid ((((Below.refl w.heap.size w).alloc (Nat.le_refl _) _).trans (k1.mono (by simp))))
    clear k1
    go_wp2_with fail
    refine (ints_nil _ _ _ zs _ (HN.out.below B1.out)).mono ?_
    rintro e w2 ⟨rfl, k2⟩
    have B2 := Lib.hid (B1.out.trans (k2.mono B1.out.size))
    clear k2
    go_wp2
    go_end0
    exact ⟨rfl, B2.out⟩
  · go_enter Try.func15, Try.ntmps15
    go_wp2_with fail
    refine (HK.out _).mono ?_
    rintro e w1 ⟨rfl, k1⟩
    have c1 := HCC.out 5 w1 (k1.mono (by simp))
    have B1 := Lib.hid ((((Below.refl w.heap.size w).alloc (Nat.le_refl _) _).trans (k1.mono (by simp))))
    clear k1
    go_wp2_with fail
    refine (texts_nil _ _ _ ss _ (HS.out.below B1.out)).mono ?_
    rintro e w2 ⟨rfl, k2⟩
    have B2 := Lib.hid (B1.out.trans (k2.mono B1.out.size))
    clear k2
    go_wp2
    go_end0
    exact ⟨rfl, B2.out⟩

end Go.Proofs.Ytjemofhppljcbaa.Oct
