/-
  The walks of octets.Put.
-/
import Derived.Test.YtgbpofgmomglfaaDoorOctGet
import Derived.Test.YtgbpofgmomglfaaDoorShelf
namespace Go.Proofs.YtgbpofgmomglfaaDoor.Oct
open Go.RowKit

theorem p7 : (256 : Nat) ^ 7 ≤ 72057594037927936 := by decide +kernel
theorem bitLen_pos (x : Nat) (h : x ≠ 0) (hx : x < 2 ^ 64) : 1 ≤ Lib.bitLen x := by rw [Lib.bitLen_half x h hx]; omega
theorem wide_wid (f x : Nat) (hx : x < 256 ^ f) (hf : f ≤ 7) : (Lib.bitLen x + 7) / 8 = wid x := by
  induction f generalizing x with
  | zero => have : x = 0 := by simp at hx; omega
            subst this; decide +kernel
  | succ f ih =>
    have h7 : x < 256 ^ 7 := Nat.lt_of_lt_of_le hx (Nat.pow_le_pow_right (by omega) hf)
    have h7' : x < 72057594037927936 := Nat.lt_of_lt_of_le h7 p7
    by_cases h0 : x = 0
    · subst h0; decide +kernel
    · rw [wid_step x h7, if_neg h0]
      by_cases h1 : x < 256
      · have a := bitLen_pos x h0 (by omega)
        have b := Lib.bitLen_le8 ⟨x, h1⟩
        simp only at b
        have : x / 256 = 0 := by omega
        rw [this, wid_zero]; omega
      · rw [Lib.bitLen_shift8 x (by omega) (by omega)]
        have hd : x / 256 < 256 ^ f := by rw [Nat.div_lt_iff_lt_mul (by omega)]; rw [Nat.pow_succ] at hx; exact hx
        have := ih (x / 256) hd (by omega)
        omega

set_option maxHeartbeats 400000 in
theorem put_out (n : Int) (w : World) (h : n < -9007199254740992 ∨ 9007199254740992 < n) :
    Calls Tryd.prog 53 #[.int .i64 n] w fun e w' => e = .returned (.string ⟨#[]⟩) ∧ w = w' := by
  rcases h with h | h
  · go_enter Tryd.func53, Tryd.ntmps53
    go_wp2
    go_ret
    exact ⟨rfl, rfl⟩
  · have h2 : -9007199254740992 ≤ n := by omega
    go_enter Tryd.func53, Tryd.ntmps53
    go_wp2
    go_ret
    exact ⟨rfl, rfl⟩

/-- The eight cells behind k rounds. -/
def u8v (c : UInt8) : Value := .int .u8 (c.toNat : Int)
def row (f : Int) (W m k : Nat) : List Value := .int .u8 f :: (List.replicate (W - k) (.int .u8 0) ++ ((be k m).map u8v ++ List.replicate (7 - W) (.int .u8 0)))

theorem row_length (f : Int) (W m k : Nat) (hk : k ≤ W) (hW : W ≤ 7) : (row f W m k).length = 8 := by
  simp [row, be_length]; omega
theorem row_set (f : Int) (W m k : Nat) (hk : k < W) : (row f W m k).set (W - k) (u8v (UInt8.ofNat (m / 256 ^ k))) = row f W m (k + 1) := by
  obtain ⟨j, hj⟩ : ∃ j, W - k = j + 1 := ⟨W - k - 1, by omega⟩
  have hj' : W - (k + 1) = j := by omega
  simp only [row, hj, hj', List.set_cons_succ]
  congr 1
  rw [List.replicate_succ', List.append_assoc, List.set_append_right _ _ (by simp)]
  simp [be]
theorem row_get (f : Int) (W m k : Nat) (hk : k < W) : (row f W m k)[W - k]? = some (.int .u8 0) := by
  obtain ⟨j, hj⟩ : ∃ j, W - k = j + 1 := ⟨W - k - 1, by omega⟩
  simp only [row, hj, List.getElem?_cons_succ]
  rw [List.replicate_succ', List.append_assoc, List.getElem?_append_right (by simp)]
  simp
theorem row_end (f : Int) (W m : Nat) : (row f W m W).take (1 + W) = .int .u8 f :: (be W m).map u8v := by
  rw [show 1 + W = W + 1 from by omega]
  simp only [row, Nat.sub_self, List.replicate_zero, List.nil_append, List.take_succ_cons]
  congr 1
  rw [List.take_append_of_le_length (by simp [be_length]), List.take_of_length_le (by simp [be_length])]

theorem u8v_ofNat (x : Nat) (n : Int) (k : Nat) (hn : n = x) : Value.int .u8 (n / 2 ^ (8 * k) % 256) = u8v (UInt8.ofNat (x / 256 ^ k)) := by
  subst hn
  unfold u8v
  rw [UInt8.toNat_ofNat']
  have e : (2 : Int) ^ (8 * k) = ((256 ^ k : Nat) : Int) := by
    rw [Int.pow_mul]; simp
  rw [e]
  congr 1

/-- The first byte. -/
def fstB (b : Bool) (W : Nat) : UInt8 := UInt8.ofNat ((if b then 128 else 0) + W)
theorem pb_sign (n : Int) (h1 : -9007199254740992 ≤ n) (h2 : n ≤ 9007199254740992) (b : Bool) (hb : n < 0 ↔ b = true) (W : Nat) (hW : W = wid n.natAbs) : pb n = fstB b W :: be W n.natAbs := by
  subst hW
  rw [pb, if_neg (by omega), fstB]
  cases b with
  | true => rw [if_pos (hb.2 rfl)]; rfl
  | false => rw [if_neg (fun h => by cases hb.1 h)]; rfl
/-- The bytes in the cells are the number's. -/
theorem row_bytes (W m : Nat) (b : Bool) (hW : W ≤ 7) (wr : World) (B : Nat) (hrow : wr.heap[B]? = some (.cells (row ((if b then 128 else 0) + W) W m W).toArray 131 (0, 0))) :
    (convert 91 9 (.slice (some ⟨B, 0, none⟩) (1 + W) 8)).run Tryd.prog wr = .ok (.string ⟨(fstB b W :: be W m).toArray⟩) wr := by
  unfold fstB
  have hl : (UInt8.ofNat ((if b then 128 else 0) + W) :: be W m).length = 1 + W := by simp [be_length]; omega
  have := run_convert_bytes_back (P := Tryd.prog) wr 91 9 5 ⟨B, 0, none⟩ 8 (UInt8.ofNat ((if b then 128 else 0) + W) :: be W m) Tryd.underlying91 Tryd.underlying5 Tryd.underlying9 (fun j hj => by
    have e : (⟨B, 0, none⟩ : Addr).add j = ⟨B, j, none⟩ := by unfold Addr.add; split <;> simp_all
    rw [e, cell_of_row _ _ _ _ _ _ hrow, List.getElem?_toArray]
    have h1 : (row ((if b then 128 else 0) + W) W m W)[j]? = ((row ((if b then 128 else 0) + W) W m W).take (1 + W))[j]? := by
      rw [List.getElem?_take_of_lt (by omega)]
    rw [h1, row_end]
    have h2 : Value.int .u8 ((if b then 128 else 0) + W) :: (be W m).map u8v = (UInt8.ofNat ((if b then 128 else 0) + W) :: be W m).map u8v := by
      rw [List.map_cons]
      congr 1
      unfold u8v
      rw [first_toNat b W hW]
      congr 1
      cases b <;> simp
    rw [h2, List.getElem?_map, List.getElem?_eq_getElem hj]
    rfl)
  rw [hl] at this
  exact this

theorem slice8 (k : Nat) (hk : k ≤ 7) (B : Nat) (w : World) : (Instr.sliceAt 131 (.pointer (some ⟨B, 0, none⟩)) none (some (.int .i64 (1 + (k : Int)))) none).run Tryd.prog w = .ok (.slice (some ⟨B, 0, none⟩) (1 + k) 8) w := by
  have hal : Tryd.prog.arrayLen 131 = 8 := by kernel_rfl
  have hu : Tryd.prog.underlying 131 = some (.array (Tryd.prog.arrayLen 131) (Tryd.prog.elem 131)) := by kernel_rfl
  have hs : ∀ w, (sizeOf (Tryd.prog.elem 131)).run Tryd.prog w = .ok 1 w := fun w => by kernel_rfl
  rw [run_sliceAt_array_h w _ _ hu .i64 _ (by omega) (by rw [hal]; omega), hs, hal]
  simp only [Result.andThen, slicedAt]
  rw [show (1 + (k : Int)).toNat = 1 + k from by omega]
  simp [Addr.add]

set_option maxRecDepth 100000 in
set_option maxHeartbeats 1000000 in
theorem put_in (n : Int) (w : World) (h1 : -9007199254740992 ≤ n) (h2 : n ≤ 9007199254740992) (h0 : 0 ≤ n) :
    Calls Tryd.prog 53 #[.int .i64 n] w fun e w' => e = .returned (.string ⟨(pb n).toArray⟩) ∧ Below w.heap.size w w' := by
  go_enter Tryd.func53, Tryd.ntmps53
  go_wp2_with fail
  refine (Tryd.bits_Len _ _ (by omega) (by omega)).mono ?_
  rintro e w' ⟨rfl, hw⟩
  subst hw
  obtain ⟨L, hL⟩ : ∃ L, L = Lib.bitLen (n).toNat := ⟨_, rfl⟩
  rw [← hL]
  have hw7 := wid7 n.natAbs (by omega)
  have hLw : (L + 7) / 8 = wid n.natAbs := by
    rw [hL, show (n).toNat = n.natAbs from by omega]
    exact wide_wid 7 _ (by have := big; omega) (by omega)
  have HL := Lib.hid hL
  clear hL
  obtain ⟨W, hW⟩ : ∃ W, W = wid n.natAbs := ⟨_, rfl⟩
  rw [← hW] at hLw hw7
  have HW := Lib.hid hW
  clear hW
  have hLW : ((L : Int) + 7) / 8 = W := by omega
  have hL' : L ≤ 56 := by omega
  clear hLw
  go_wp2
  simp only [hLW]
  have HLW := Lib.hid hLW
  clear hLW
  go_loopw [6, 31] (fun _ i wr => ∃ k : Nat, k ≤ W ∧ i = .int .i64 k ∧ wr.heap[w.heap.size]? = some (.cells (row ((if false then 128 else 0) + W) W n.natAbs k).toArray 131 (0, 0)) ∧ Below w.heap.size w wr) (fun _ i _ => W - (intOf i).toNat)
  case atStart =>
    refine ⟨0, by omega, rfl, ?_, (Below.refl _ _).alloc (Nat.le_refl _) _⟩
    rw [heap_alloc_new]
    have e : row ((if false then 128 else 0) + W) W n.natAbs 0 = .int .u8 (W : Int) :: List.replicate 7 (.int .u8 0) := by
      simp only [row, be, List.map_nil, List.nil_append, List.replicate_append_replicate]
      rw [show W - 0 + (7 - W) = 7 from by omega]
      congr 2
      simp
    first | (rw [e]; done) | (rw [e]; rfl)
  case round =>
    obtain ⟨k, hk, rfl, hrow, hbel⟩ := hrel
    by_cases hlt : k < W
    · have hcell : wr.cell? ⟨w.heap.size, W - k, none⟩ = some (.int .u8 0) := by
        rw [cell_of_row _ _ _ _ _ _ hrow, List.getElem?_toArray, row_get _ _ _ _ hlt]
      have hfr : wr.frozen? ⟨w.heap.size, W - k, none⟩ = false := by simp [World.frozen?, hrow]
      have HR := Lib.hid hrow
      clear hrow
      go_wp2
      go_roundw
      case rel =>
        refine ⟨k + 1, by omega, by go_num, ?_, hbel.setCell (Nat.le_refl _) _⟩
        have hrow := HR.out
        rw [u8v_ofNat n.natAbs (n) k (by omega), ← row_set _ _ _ _ hlt]
        simp [World.setCell, Array.getElem?_modify, hrow]
      case measure => simp [intOf]; omega
    · have : k = W := by omega
      subst this
      have hsl := slice8 k hw7 w.heap.size
      have hcv := row_bytes k n.natAbs false hw7 wr w.heap.size hrow
      clear hrow
      go_wp2
      go_ret
      refine ⟨?_, hbel⟩
      rw [pb_sign n h1 h2 false (by constructor <;> intro h <;> first | omega | cases h) k HW.out]
      rfl

set_option maxRecDepth 100000 in
set_option maxHeartbeats 1000000 in
theorem put_minus (n : Int) (w : World) (h1 : -9007199254740992 ≤ n) (h2 : n ≤ 9007199254740992) (h0 : n < 0) :
    Calls Tryd.prog 53 #[.int .i64 n] w fun e w' => e = .returned (.string ⟨(pb n).toArray⟩) ∧ Below w.heap.size w w' := by
  go_enter Tryd.func53, Tryd.ntmps53
  go_wp2_with fail
  refine (Tryd.bits_Len _ _ (by omega) (by omega)).mono ?_
  rintro e w' ⟨rfl, hw⟩
  subst hw
  obtain ⟨L, hL⟩ : ∃ L, L = Lib.bitLen (-n).toNat := ⟨_, rfl⟩
  rw [← hL]
  have hw7 := wid7 n.natAbs (by omega)
  have hLw : (L + 7) / 8 = wid n.natAbs := by
    rw [hL, show (-n).toNat = n.natAbs from by omega]
    exact wide_wid 7 _ (by have := big; omega) (by omega)
  have HL := Lib.hid hL
  clear hL
  obtain ⟨W, hW⟩ : ∃ W, W = wid n.natAbs := ⟨_, rfl⟩
  rw [← hW] at hLw hw7
  have HW := Lib.hid hW
  clear hW
  have hLW : ((L : Int) + 7) / 8 = W := by omega
  have hL' : L ≤ 56 := by omega
  clear hLw
  go_wp2
  simp only [hLW]
  have HLW := Lib.hid hLW
  clear hLW
  go_loopw [6, 31] (fun _ i wr => ∃ k : Nat, k ≤ W ∧ i = .int .i64 k ∧ wr.heap[w.heap.size]? = some (.cells (row ((if true then 128 else 0) + W) W n.natAbs k).toArray 131 (0, 0)) ∧ Below w.heap.size w wr) (fun _ i _ => W - (intOf i).toNat)
  case atStart =>
    refine ⟨0, by omega, rfl, ?_, (Below.refl _ _).alloc (Nat.le_refl _) _⟩
    rw [heap_alloc_new]
    have e : row ((if true then 128 else 0) + W) W n.natAbs 0 = .int .u8 (128 + (W : Int)) :: List.replicate 7 (.int .u8 0) := by
      simp only [row, be, List.map_nil, List.nil_append, List.replicate_append_replicate]
      rw [show W - 0 + (7 - W) = 7 from by omega]
      congr 2
    first | (rw [e]; done) | (rw [e]; rfl)
  case round =>
    obtain ⟨k, hk, rfl, hrow, hbel⟩ := hrel
    by_cases hlt : k < W
    · have hcell : wr.cell? ⟨w.heap.size, W - k, none⟩ = some (.int .u8 0) := by
        rw [cell_of_row _ _ _ _ _ _ hrow, List.getElem?_toArray, row_get _ _ _ _ hlt]
      have hfr : wr.frozen? ⟨w.heap.size, W - k, none⟩ = false := by simp [World.frozen?, hrow]
      have HR := Lib.hid hrow
      clear hrow
      go_wp2
      go_roundw
      case rel =>
        refine ⟨k + 1, by omega, by go_num, ?_, hbel.setCell (Nat.le_refl _) _⟩
        have hrow := HR.out
        rw [u8v_ofNat n.natAbs (-n) k (by omega), ← row_set _ _ _ _ hlt]
        simp [World.setCell, Array.getElem?_modify, hrow]
      case measure => simp [intOf]; omega
    · have : k = W := by omega
      subst this
      have hsl := slice8 k hw7 w.heap.size
      have hcv := row_bytes k n.natAbs true hw7 wr w.heap.size hrow
      clear hrow
      go_wp2
      go_ret
      refine ⟨?_, hbel⟩
      rw [pb_sign n h1 h2 true (by constructor <;> intro h <;> first | rfl | exact h0) k HW.out]
      rfl

/-- octets.Put, whatever the number. -/
theorem put_any (n : Int) (w : World) :
    Calls Tryd.prog 53 #[.int .i64 n] w fun e w' => e = .returned (.string ⟨(pb n).toArray⟩) ∧ Below w.heap.size w w' := by
  by_cases h : n < -9007199254740992 ∨ 9007199254740992 < n
  · refine (put_out n w h).mono fun e w' ⟨he, hw⟩ => ?_
    subst hw
    rw [pb, if_pos h]
    exact ⟨he, Below.refl _ _⟩
  · by_cases h0 : 0 ≤ n
    · exact put_in n w (by omega) (by omega) h0
    · exact put_minus n w (by omega) (by omega) (by omega)

end Go.Proofs.YtgbpofgmomglfaaDoor.Oct
