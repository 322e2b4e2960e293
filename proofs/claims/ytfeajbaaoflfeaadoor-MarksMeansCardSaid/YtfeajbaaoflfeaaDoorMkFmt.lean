/-
  The walks of strconv's setDigits, ftoa64, FormatFloat and of marks.Show at the one mark.
-/
import Derived.Test.YtfeajbaaoflfeaaDoorMkEfg
import Derived.Test.YtfeajbaaoflfeaaDoorMkBits
import Derived.Test.YtfeajbaaoflfeaaDoorShelf
import Derived.Deep.RegionWith
namespace Go.Proofs.YtfeajbaaoflfeaaDoor.Mk
open Go.RowKit Go.Lib
open Go.Sort (putRow Holds size_putRow mapBlock cell?_putRow)

theorem putRow_block {α : Type} [Inhabited α] (enc : α → Value) (w : World) (blk off : Nat) (d : Array α) (k : Nat) (h : k ≠ blk) : (putRow enc w blk off d).heap[k]? = w.heap[k]? := by
  simp [putRow, mapBlock, Array.getElem?_modify]
  intro e
  exact absurd e.symm h
theorem putRow_below {α : Type} [Inhabited α] (enc : α → Value) (w : World) (blk off n : Nat) (d : Array α) : Below blk w ((putRow enc w blk off d).drewN n) :=
  ⟨rfl, rfl, rfl, by show w.heap.size ≤ (putRow enc w blk off d).heap.size; rw [size_putRow]; exact Nat.le_refl _, fun k hk => putRow_block enc w blk off d k (by omega)⟩

/-- What the digits' row holds. -/
theorem digs_of {v' : Nat} {dk : Array UInt8} (h : FmtInv 17 33333333333333336 0 v' dk) (k : Nat) (hk : k < 17) : dk[k]! = digs.getD k 0 := by
  rw [h.done k (Nat.zero_le _) hk]
  have : ∀ k : Fin 17, dg 33333333333333336 (17 - 1 - k.val) = digs.getD k.val 0 := by decide +kernel
  exact this ⟨k, hk⟩

theorem below_drewN (w : World) (n : Nat) : Below w.heap.size w (w.drewN n) := ⟨rfl, rfl, rfl, Nat.le_refl _, fun _ _ => rfl⟩

/-- 32 bytes 0. -/
def zero32 : Obj := .cells (Array.replicate 32 (.int .u8 0)) 73

/-- What setDigits leaves. -/
def Set (B : Nat) (w : World) (e : Ending) (w' : World) : Prop := e = .returned (.tuple #[.int .i64 2, .int .i64 17]) ∧ Digs B w' ∧ Below B w w' ∧ w'.heap.size = w.heap.size

theorem set_at (B : Nat) (w : World) (hz : w.heap[B]? = some zero32) :
    Calls Tryd.prog 59 #[.slice (some ⟨B, 0, none⟩) 32 32, .int .u64 33333333333333336, .int .i64 (-15), .int .i64 17] w (Set B w) := by
  have hH : Holds (fun (b : UInt8) => Value.int .u8 (b.toNat : Int)) w B 0 (Array.replicate 17 (0 : UInt8)) := fun j hj => by
    have hj' : j < 17 := by simpa using hj
    refine ⟨?_, by simp [World.frozen?, hz, zero32]⟩
    rw [Nat.zero_add, cell_of_row _ _ _ _ _ _ hz, Array.getElem?_replicate, if_pos (by omega), getElem!_pos _ j hj]
    simp
  have K := Lib.hid (Tryd.internal_strconv_formatBase10 B 0 32 33333333333333336 (Array.replicate 17 0) w hH (by simp) (by omega) (by simp))
  have hs : (Array.replicate 17 (0 : UInt8)).size = 17 := by simp
  rw [hs] at K
  have HH := Lib.hid hH
  clear hz hH hs
  go_enter Tryd.func59, Tryd.ntmps59
  go_wp2_with fail
  refine K.out.mono ?_
  rintro e w1 ⟨rfl, n, v', dk, hw1, hinv⟩
  have hd : Digs B w1 := fun k hk => by
    have := (cell?_putRow (fun (b : UInt8) => Value.int .u8 (b.toNat : Int)) w B 0 _ dk HH.out (by rw [hinv.size]; simp) k (by rw [hinv.size]; exact hk))
    rw [Nat.zero_add] at this
    rw [hw1, ← digs_of hinv k hk]
    exact this
  have hb : Below B w w1 := by rw [hw1]; exact putRow_below _ _ _ _ _ _
  have hsz : w1.heap.size = w.heap.size := by rw [hw1]; exact size_putRow _ _ _ _ _
  have HD := Lib.hid hd
  have HZ := Lib.hid hsz
  have c16 := hd 16 (by omega)
  have : digs.getD 16 0 = 54 := rfl
  rw [this, u8v] at c16
  clear hw1 hinv hd hsz this
  go_wp2
  refine wp_loop_rounds 1 ?_
  rw [rounds_succ]
  go_wp2
  go_ret2
  exact ⟨rfl, HD.out, hb, HZ.out⟩

theorem num_at (w : World) (ht : Tab w) :
    Calls Tryd.prog 60 #[.int .u64 33333333333333336] w fun e w' => e = .returned (.int .i64 17) ∧ w = w' := by
  obtain ⟨h1, h2, h3⟩ := ht
  have hlen : Lib.bitLen (33333333333333336 : Int).toNat = 55 := by decide +kernel
  go_enter Tryd.func60, Tryd.ntmps60
  go_wp2_with fail
  refine (Tryd.bits_Len64 _ _ (by omega) (by omega)).mono ?_
  rintro e w' ⟨rfl, hw⟩
  subst hw
  rw [hlen]
  go_wp2
  go_ret
  exact ⟨rfl, rfl⟩


theorem Set.own {D B : Nat} {w w' : World} (hb : Below B w w') (hDB : D < B) {v : Value} {n : Nat} {xs : List Value} (h : w.ownsRow D 5 1 v n xs) (hv : v.ownBlock = some D) : w'.ownsRow D 5 1 v n xs := by
  refine ⟨h.1, ?_⟩
  rcases h.2 with h2 | ⟨g, cap, cur, rfl, h3, h4, h5⟩
  · exact .inl h2
  · have hg : g = D := by injection hv
    subst hg
    exact .inr ⟨g, cap, cur, rfl, h3, by rw [hb.block g hDB]; exact h4, h5⟩

set_option maxRecDepth 100000 in
set_option maxHeartbeats 4000000 in
theorem ftoa_at (D : Nat) (w : World) (hD : D < w.heap.size) (hown : w.ownsRow D 5 1 (.slice (some ⟨D, 0, none⟩) 0 24) 0 []) (ht : Tab w) (hl : Low w) :
    Calls Tryd.prog 50 #[.slice (some ⟨D, 0, none⟩) 0 24, .float .f64 4629888066921343659, .int .u8 103, .int .i64 (-1)] w
      fun e w' => e = .returned (.slice (some ⟨D, 0, none⟩) 18 24) ∧ w'.ownsRow D 5 1 (.slice (some ⟨D, 0, none⟩) 18 24) 18 ((txt 18).map u8v) ∧ Below D w w' := by
  have hbits := sbits 4629888066921343659
  have e1 : bits .and .i64 1028 2047 = 1028 := by decide +kernel
  have e2 : bits .and .u64 4629888066921343659 4503599627370495 = 187649984473771 := by decide +kernel
  have e3 : bits .or .u64 187649984473771 4503599627370496 = 4691249611844267 := by decide +kernel
  have hlen : Lib.bitLen (4691249611844267 : Int).toNat = 53 := by decide +kernel
  go_enter Tryd.func50, Tryd.ntmps50
  go_wp2_with fail
  go_quiet (fail)
  go_wp2_with fail
  refine (Tryd.bits_Len64 _ _ (by omega) (by omega)).mono ?_
  rintro e w1 ⟨rfl, hw⟩
  subst hw
  rw [hlen]
  clear hlen
  go_wp2_with fail
  have hb : ∀ n, Below w.heap.size w ((w.drewN n).alloc zero32) := fun n => (below_drewN w n).alloc (Nat.le_refl _) _
  have hz : ∀ n, ((w.drewN n).alloc zero32).heap[w.heap.size]? = some zero32 := fun n => heap_alloc_new (w.drewN n) _
  have hs : ∀ n, ((w.drewN n).alloc zero32).heap.size = w.heap.size + 1 := fun n => size_alloc (w.drewN n) _
  refine (short_at ((w.drewN _).alloc zero32) (ht.of hl (hb _)) (hl.of (hb _))).mono ?_
  rintro e w2 ⟨rfl, b2⟩
  have hb2 := (hb _).trans (b2.mono (hb _).size)
  have hz2 : w2.heap[w.heap.size]? = some zero32 := (b2.block w.heap.size (by rw [hs]; omega)).trans (hz _)
  have ht2 := ht.of hl hb2
  have hown2 : w2.ownsRow D 5 1 (.slice (some ⟨D, 0, none⟩) 0 24) 0 [] := Set.own (Below.mono hb2 (Nat.le_refl _)) hD hown rfl
  have hsz2 : w.heap.size < w2.heap.size := Nat.lt_of_lt_of_le (by rw [hs]; omega) b2.size
  obtain ⟨B, hBB⟩ : ∃ B, B = w.heap.size := ⟨_, rfl⟩
  rw [← hBB] at hz2 hsz2 hD hb2 ⊢
  have HZ := Lib.hid hz2
  have HT := Lib.hid ht2
  have HO := Lib.hid hown2
  clear hb hz hs b2 hz2 ht2 hown2 hown ht hl hbits e1 e2 e3
  have HBB := Lib.hid hBB
  clear hBB
  go_wp2_with fail
  go_region_with ((first | (go_at_call 60; refine (num_at w2.drew HT.out).mono ?_; rintro e w3 ⟨rfl, rfl⟩) | (go_at_call 59; refine (set_at B w2.drew HZ.out).mono ?_; rintro e w3 ⟨rfl, k1, k2, k3⟩)))
  have hb3 : Below B w w3 := hb2.trans (Below.trans ((Below.refl _ _).drew) k2)
  have hown3 : w3.ownsRow D 5 1 (.slice (some ⟨D, 0, none⟩) 0 24) 0 [] := Set.own (Below.trans ((Below.refl _ _).drew) k2) hD HO.out rfl
  have hsz3 : B < w3.heap.size := by rw [k3]; exact hsz2
  have K := Lib.hid (efg_at D B w3 hD hsz3 hown3 k1)
  clear hown3 hsz3 k1 k2 k3 hb2 hsz2
  go_wp2_with fail
  refine K.out.mono ?_
  rintro e w4 ⟨rfl, o4, b4⟩
  have H4 := Lib.hid o4
  clear o4
  go_wp2
  go_ret
  exact ⟨rfl, H4.out, (hb3.mono (Nat.le_of_lt hD)).trans b4⟩

/-- The text that is shown. -/
def shown : ByteArray := ⟨#[51, 51, 46, 51, 51, 51, 51, 51, 51, 51, 51, 51, 51, 51, 51, 51, 51, 54]⟩

theorem back_txt (D : Nat) (w : World) (hown : w.ownsRow D 5 1 (.slice (some ⟨D, 0, none⟩) 18 24) 18 ((txt 18).map u8v)) :
    (convert 51 9 (.slice (some ⟨D, 0, none⟩) 18 24)).run Tryd.prog w = .ok (.string shown) w := by
  have hc := hown.cells (g := D) rfl
  have := run_convert_bytes_back (P := Tryd.prog) w 51 9 5 ⟨D, 0, none⟩ 24 (txt 18) Tryd.underlying51 Tryd.underlying5 Tryd.underlying9 (fun j hj => by
    refine hc j _ ?_
    rw [List.getElem?_map, List.getElem?_eq_getElem hj]
    rfl)
  have e : (txt 18).length = 18 := by decide +kernel
  have e2 : (⟨(txt 18).toArray⟩ : ByteArray) = shown := by decide +kernel
  rw [e, e2] at this
  exact this

/-- The new slice of 24 bytes. -/
def made24 : Obj := .cells (madeCells (Value.int .u8 0).cells (24 * 1)) 5
theorem make24 (W : World) : (Instr.makeSlice 51 (.int .i64 0) (.int .i64 24)).run Tryd.prog W = .ok (.slice (some ⟨W.heap.size, 0, none⟩) 0 24) (W.alloc made24) := by
  obtain ⟨i0, hi, hz0, hz1, hz2⟩ := info_parts u8info
  have := run_make W 51 5 i0 (.int .u8 0) Tryd.underlying51 hi hz0 .i64 .i64 0 24 (by omega) (by omega) (by rw [hz2]; omega) (by omega)
  rw [this, hz1]
  rfl
theorem own24 (W : World) : (W.alloc made24).ownsRow W.heap.size 5 1 (.slice (some ⟨W.heap.size, 0, none⟩) 0 24) 0 [] :=
  World.ownsRow_made W _ 24 (Nat.le_refl _) (by unfold maxLen; omega) (size_madeCells _ _)

set_option maxRecDepth 100000 in
set_option maxHeartbeats 1000000 in
theorem iformat_at (w : World) (ht : Tab w) (hl : Low w) :
    Calls Tryd.prog 46 #[.float .f64 4629888066921343659, .int .u8 103, .int .i64 (-1), .int .i64 64] w
      fun e w' => e = .returned (.string shown) ∧ Below w.heap.size w w' := by
  have hmk : ∀ W : World, (Instr.makeSlice 51 (.int .i64 0) (.int .i64 (max 3 24))).run Tryd.prog W = .ok (.slice (some ⟨W.heap.size, 0, none⟩) 0 24) (W.alloc made24) := make24
  have hb : Below w.heap.size w (w.alloc made24) := (Below.refl _ _).alloc (Nat.le_refl _) _
  have K := Lib.hid (ftoa_at w.heap.size (w.alloc made24) (by rw [size_alloc]; omega) (own24 w) (ht.of hl hb) (hl.of hb))
  have HB := Lib.hid hb
  clear ht hl hb
  go_enter Tryd.func46, Tryd.ntmps46
  go_wp2_with fail
  refine K.out.mono ?_
  rintro e w1 ⟨rfl, o1, b1⟩
  have hbk := back_txt _ _ o1
  clear o1 K hmk
  go_wp2
  go_ret
  exact ⟨rfl, HB.out.trans b1⟩

theorem format_at (w : World) (ht : Tab w) (hl : Low w) :
    Calls Tryd.prog 42 #[.float .f64 4629888066921343659, .int .u8 103, .int .i64 (-1), .int .i64 64] w
      fun e w' => e = .returned (.string shown) ∧ Below w.heap.size w w' := by
  go_enter Tryd.func42, Tryd.ntmps42
  go_wp2_with fail
  refine (iformat_at _ ht hl).mono ?_
  rintro e w1 ⟨rfl, b1⟩
  go_wp2
  go_ret
  exact ⟨rfl, b1⟩

end Go.Proofs.YtfeajbaaoflfeaaDoor.Mk
