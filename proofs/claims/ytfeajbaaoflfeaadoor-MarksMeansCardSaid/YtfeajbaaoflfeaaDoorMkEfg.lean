/-
  The walk of strconv's fmtEFG at the one mark: 33.333333333333336.
-/
import Derived.Test.YtfeajbaaoflfeaaDoorMkNum
import Derived.Laws.AppendOwn
import Derived.OwnWalk
import Derived.Deep.AppendLies
import Derived.Lib.Hide
namespace Go.Proofs.YtfeajbaaoflfeaaDoor.Mk
open Go.RowKit

def u8v (c : UInt8) : Value := .int .u8 (c.toNat : Int)
/-- The digits, and the text. -/
def digs : List UInt8 := [51, 51, 51, 51, 51, 51, 51, 51, 51, 51, 51, 51, 51, 51, 51, 51, 54]
def txt (k : Nat) : List UInt8 := if k ≤ 2 then digs.take k else digs.take 2 ++ 46 :: (digs.drop 2).take (k - 3)

theorem u8info : (Tryd.prog.info? 5).map (fun i => (i.zero, i.size, i.bytes)) = some (some (.int .u8 0), 1, 1) := by kernel_rfl

/-- The cells of the digits. -/
def Digs (B : Nat) (w : World) : Prop := ∀ k, k < 17 → w.cell? ⟨B, k, none⟩ = some (u8v (digs.getD k 0))

theorem txt_lo_all : ∀ k : Fin 2, txt (k.val + 1) = txt k.val ++ [digs.getD k.val 0] := by decide +kernel
theorem txt_hi_all : ∀ k : Fin 15, txt (3 + (k.val + 1)) = txt (3 + k.val) ++ [digs.getD (2 + k.val) 0] := by decide +kernel
theorem txt_lo (k : Nat) (h : k < 2) : txt (k + 1) = txt k ++ [digs.getD k 0] := txt_lo_all ⟨k, h⟩
theorem txt_hi (k : Nat) (h : k < 15) : txt (3 + (k + 1)) = txt (3 + k) ++ [digs.getD (2 + k) 0] := txt_hi_all ⟨k, h⟩
theorem txt_dot : txt 3 = txt 2 ++ [46] := by decide +kernel
theorem size_alloc (w : World) (o : Obj) : (w.alloc o).heap.size = w.heap.size + 1 := by
  show (w.heap.push o).size = _
  rw [Array.size_push]
theorem one_new (w : World) (v : Value) (T : TypeId) : ∀ j u, [v][j]? = some u → (w.alloc (.cells #[v] T)).cell? ((⟨w.heap.size, 0, none⟩ : Addr).add j) = some u := by
  intro j u h
  have hj : j = 0 := by
    rcases j with _ | j
    · rfl
    · simp at h
  subst hj
  have e : (⟨w.heap.size, 0, none⟩ : Addr).add 0 = ⟨w.heap.size, 0, none⟩ := rfl
  rw [e, cell_of_row _ _ _ _ _ _ (heap_alloc_new w _)]
  simpa using h
theorem one_cell (c : UInt8) : ∀ u ∈ [u8v c], u.oneCell' = true := by
  intro u hu
  rw [List.mem_singleton.1 hu]; rfl
theorem Digs.keep {B D : Nat} {w w' : World} (h : Digs B w) (hB : B < w.heap.size) (hDB : D < B) (o : Obj) (hg : (w.alloc o).grownBy w' (some D)) : Digs B w' := fun k hk => by
  refine hg.cell ?_ (by intro e; injection e with e; simp only at e; omega)
  rw [World.cell?_of_block (w := w) (Below.heap_alloc w o B hB)]
  exact h k hk

/-- One byte more at the end. -/
theorem add_one {D B : Nat} {w wr w1 : World} {k : Nat} {l l' : List UInt8} {c : UInt8} {o : Obj} (hl : l' = l ++ [c]) (hDB : D < B) (hB : B < wr.heap.size) (hd : Digs B wr) (hbel : Below D w wr) (hg1 : (wr.alloc o).grownBy w1 (some D))
    (hown1 : w1.ownsRow D 5 1 (.slice (some ⟨D, 0, none⟩) (k + 1) 24) (k + 1) (l.map u8v ++ [u8v c])) :
    w1.ownsRow D 5 1 (.slice (some ⟨D, 0, none⟩) (k + 1) 24) (k + 1) (l'.map u8v) ∧ Digs B w1 ∧ B < w1.heap.size ∧ Below D w w1 := by
  refine ⟨by rw [hl, List.map_append]; exact hown1, hd.keep hB hDB o hg1, Nat.lt_of_lt_of_le (by rw [size_alloc]; omega) hg1.size, ?_⟩
  exact (hbel.alloc (by omega) o).grown hg1 (by rw [size_alloc]; omega) (fun k hk => by injection hk; omega)

set_option maxRecDepth 100000 in
set_option maxHeartbeats 4000000 in
theorem efg_at (D B : Nat) (w : World) (hDB : D < B) (hB : B < w.heap.size) (hown : w.ownsRow D 5 1 (.slice (some ⟨D, 0, none⟩) 0 24) 0 []) (hd : Digs B w) :
    Calls Tryd.prog 56 #[.slice (some ⟨D, 0, none⟩) 0 24, .bool false, .slice (some ⟨B, 0, none⟩) 32 32, .int .i64 2, .int .i64 17, .int .i64 17, .int .u8 103, .bool true] w
      fun e w' => e = .returned (.slice (some ⟨D, 0, none⟩) 18 24) ∧ w'.ownsRow D 5 1 (.slice (some ⟨D, 0, none⟩) 18 24) 18 ((txt 18).map u8v) ∧ Below D w w' := by
  obtain ⟨i0, hi, hz0, hz1, hz2⟩ := info_parts u8info
  go_enter Tryd.func56, Tryd.ntmps56
  go_wp2
  go_loopw [0, 25, 191] (fun dst _ i wr => ∃ k : Nat, k ≤ 2 ∧ i = .int .i64 k ∧ dst = .slice (some ⟨D, 0, none⟩) k 24 ∧ wr.ownsRow D 5 1 (.slice (some ⟨D, 0, none⟩) k 24) k ((txt k).map u8v) ∧ Digs B wr ∧ B < wr.heap.size ∧ Below D w wr) (fun _ _ i _ => 2 - (intOf i).toNat)
  case atStart => exact ⟨0, by omega, rfl, rfl, hown, hd, hB, Below.refl _ _⟩
  case round =>
    clear hown hd hB
    obtain ⟨k, hk, rfl, rfl, hown, hd, hB, hbel⟩ := hrel
    by_cases hk2 : k < 2
    · have hc := hd k (by omega)
      have htx := txt_lo k hk2
      obtain ⟨c, hcc⟩ : ∃ c : UInt8, c = digs.getD k 0 := ⟨_, rfl⟩
      rw [← hcc] at hc htx
      rw [u8v] at hc
      have HT := Lib.hid htx
      clear hcc htx
      go_wp2_with (refine wpList_append_fits _ rfl (.tmp 195) (.tmp 197) 51 rfl D 5 i0 1 Tryd.underlying51 hi hz1 D k 24 ((txt k).map u8v) rfl (hown.alloc _) ⟨wr.heap.size, 0, none⟩ 1 1 [u8v c] rfl rfl (one_new _ _ _) (one_cell c) (by omega) ?_; intro w1 hown1 hg1; have hnew := Lib.hid (add_one HT.out hDB hB hd hbel hg1 hown1); clear hown1 hg1 hown hd hbel hc)
      go_roundw
      case rel =>
        obtain ⟨n1, n2, n3, n4⟩ := hnew.out
        exact ⟨k + 1, by omega, by go_num, rfl, n1, n2, n3, n4⟩
      case measure => simp [intOf]; omega
    · have : k = 2 := by omega
      subst this
      go_wp2
      refine wp_loop_rounds 1 ?_
      rw [rounds_succ]
      have hdot := Lib.hid txt_dot
      go_wp2_with (refine wpList_append_fits _ rfl (.tmp 214) (.tmp 215) 51 rfl D 5 i0 1 Tryd.underlying51 hi hz1 D 2 24 ((txt 2).map u8v) rfl (hown.alloc _) ⟨wr.heap.size, 0, none⟩ 1 1 [u8v 46] rfl rfl (one_new _ _ _) (one_cell 46) (by omega) ?_; intro w1 hown1 hg1; have hnew := Lib.hid (add_one hdot.out hDB hB hd hbel hg1 hown1); clear hown1 hg1 hown hd hbel hB)
      refine wp_loop_rounds 1 ?_
      rw [rounds_succ]
      go_wp2
      obtain ⟨wo, hwo⟩ : ∃ wo : World, wo = w1 := ⟨_, rfl⟩
      rw [← hwo] at hnew ⊢
      clear hwo
      go_loopw [0, 30, 247] (fun dst _ i wr => ∃ k : Nat, k ≤ 15 ∧ i = .int .i64 k ∧ dst = .slice (some ⟨D, 0, none⟩) (3 + k) 24 ∧ wr.ownsRow D 5 1 (.slice (some ⟨D, 0, none⟩) (3 + k) 24) (3 + k) ((txt (3 + k)).map u8v) ∧ Digs B wr ∧ B < wr.heap.size ∧ Below D w wr) (fun _ _ i _ => 15 - (intOf i).toNat)
      case atStart =>
        obtain ⟨n1, n2, n3, n4⟩ := hnew.out
        exact ⟨0, by omega, rfl, rfl, n1, n2, n3, n4⟩
      case round =>
        clear hnew
        obtain ⟨k, hk, rfl, rfl, hown, hd, hB, hbel⟩ := hrel
        by_cases hk2 : k < 15
        · have hc := hd (2 + k) (by omega)
          have htx := txt_hi k hk2
          obtain ⟨c, hcc⟩ : ∃ c : UInt8, c = digs.getD (2 + k) 0 := ⟨_, rfl⟩
          rw [← hcc] at hc htx
          rw [u8v] at hc
          have HT := Lib.hid htx
          clear hcc htx
          go_wp2_with (refine wpList_append_fits _ rfl (.tmp 250) (.tmp 257) 51 rfl D 5 i0 1 Tryd.underlying51 hi hz1 D (3 + k) 24 ((txt (3 + k)).map u8v) rfl (hown.alloc _) ⟨_, 0, none⟩ 1 1 [u8v c] rfl rfl (one_new _ _ _) (one_cell c) (by omega) ?_; intro w1 hown1 hg1; have hnew := Lib.hid (add_one HT.out hDB hB hd hbel hg1 hown1); clear hown1 hg1 hown hd hbel hc)
          go_roundw
          case rel =>
            obtain ⟨n1, n2, n3, n4⟩ := hnew.out
            exact ⟨k + 1, by omega, by go_num, rfl, n1, n2, n3, n4⟩
          case measure => simp [intOf]; omega
        · have : k = 15 := by omega
          subst this
          go_wp2
          refine wp_loop_rounds 1 ?_
          rw [rounds_succ]
          go_wp2
          go_ret
          exact ⟨rfl, hown, hbel⟩

end Go.Proofs.YtfeajbaaoflfeaaDoor.Mk
