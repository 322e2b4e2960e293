/-
  A mark's bytes, and the mark of bytes, the code's and the document's plain ones (without strconv).
-/
import Derived.Test.YtbkfbejbloclgaaGn
import Derived.Test.YtbkfbejbloclgaaMkFloat
import Derived.Test.YtbkfbejbloclgaaOctMath
import Derived.Laws.Externs
import Derived.WalkLawsBesides
import Derived.Laws.BitsAllLaws
import Derived.Laws.IdiomStrings
import Derived.Lib.Strings
import Derived.Below
namespace Go.Proofs.Ytbkfbejbloclgaa.Mk
open Go.RowKit
open Oct (be val val_snoc val_lt)
set_option maxRecDepth 100000

theorem mbits (b : Nat) (W : World) : (callFunc 74 #[.float .f64 b]).run Try.prog W = .ok (.value (.int .u64 b)) W :=
  run_callFunc_extern (P := Try.prog) (e := Extern.MathFloatBits.float64bits) Try.func74 (by kernel_rfl) (by kernel_rfl) (by kernel_rfl) (by kernel_rfl) _ W
theorem mfrom (b : Nat) (W : World) : (callFunc 47 #[.int .u64 (b : Int)]).run Try.prog W = .ok (.value (.float .f64 b)) W :=
  run_callFunc_extern (P := Try.prog) (e := Extern.MathFloatBits.float64frombits) Try.func47 (by kernel_rfl) (by kernel_rfl) (by kernel_rfl) (by kernel_rfl) _ W

theorem isnan_any (b : Nat) (w : World) : Calls Try.prog 82 #[.float .f64 b] w fun e w' => e = .returned (.bool (isN b)) ∧ w = w' := by
  have h := neq_self b
  unfold ord at h
  obtain ⟨t, ht⟩ : ∃ t, isN b = t := ⟨_, rfl⟩
  rw [ht] at h ⊢
  clear ht
  go_enter Try.func82, Try.ntmps82
  go_wp2
  go_ret
  exact ⟨rfl, rfl⟩
theorem none_any (w : World) : Calls Try.prog 83 #[] w fun e w' => e = .returned (.float .f64 NM) ∧ w = w' := by
  have h : ∀ W : World, (callFunc 47 #[.int .u64 9221120237041090561]).run Try.prog W = .ok (.value (.float .f64 NM)) W := fun W => mfrom 9221120237041090561 W
  go_enter Try.func83, Try.ntmps83
  go_wp2
  go_ret
  exact ⟨rfl, rfl⟩
theorem rnone_any (w : World) : Calls Try.prog 85 #[] w fun e w' => e = .returned (.float .f64 NM) ∧ w = w' := by
  have h : ∀ W : World, (callFunc 47 #[.int .u64 9221120237041090561]).run Try.prog W = .ok (.value (.float .f64 NM)) W := fun W => mfrom 9221120237041090561 W
  go_enter Try.func85, Try.ntmps85
  go_wp2
  go_ret
  exact ⟨rfl, rfl⟩
theorem rnan_any (b : Nat) (hb : b < 18446744073709551616) (w : World) : Calls Try.prog 84 #[.float .f64 b] w fun e w' => e = .returned (.bool (isN b)) ∧ w = w' := by
  have hbits := mbits b
  have h1 := u64_and_nat b 9218868437227405312 hb (by omega)
  have h2 := u64_and_nat b 4503599627370495 hb (by omega)
  rw [mask_exp] at h1
  rw [mask_frac] at h2
  have h1' : bits .and .u64 (b : Int) 9218868437227405312 = ((b / 4503599627370496 % 2048 * 4503599627370496 : Nat) : Int) := h1
  have h2' : bits .and .u64 (b : Int) 4503599627370495 = ((b % 4503599627370496 : Nat) : Int) := h2
  clear h1 h2
  rw [isN_masks]
  by_cases e1 : b / 4503599627370496 % 2048 = 2047
  · have e1' : bits .and .u64 (b : Int) 9218868437227405312 = 9218868437227405312 := by rw [h1', e1]; rfl
    clear h1'
    have t1 : decide (b / 4503599627370496 % 2048 = 2047) = true := by simpa using e1
    rw [t1, Bool.true_and]
    obtain ⟨r, hr⟩ : ∃ r, r = b % 4503599627370496 := ⟨_, rfl⟩
    rw [← hr] at h2' ⊢
    clear hr t1 e1
    by_cases e2 : r = 0
    · subst e2
      go_enter Try.func84, Try.ntmps84
      go_wp2
      go_ret
      exact ⟨rfl, rfl⟩
    · have t2 : ((r : Int) != 0) = true := by rw [bne_iff_ne]; omega
      have t3 : ((r : Int) == 0) = false := by rw [beq_eq_false_iff_ne]; omega
      have t4 : decide (r ≠ 0) = true := by simpa using e2
      rw [t4]
      clear e2 t4
      go_enter Try.func84, Try.ntmps84
      go_wp2
      go_ret
      exact ⟨rfl, rfl⟩
  · obtain ⟨r, hr⟩ : ∃ r : Int, r = ((b / 4503599627370496 % 2048 * 4503599627370496 : Nat) : Int) := ⟨_, rfl⟩
    have t1 : (r == 9218868437227405312) = false := by rw [beq_eq_false_iff_ne, hr]; omega
    rw [← hr] at h1'
    have t2 : decide (b / 4503599627370496 % 2048 = 2047) = false := by simpa using e1
    rw [t2, Bool.false_and]
    clear hr e1 t2 h2'
    go_enter Try.func84, Try.ntmps84
    go_wp2
    go_ret
    exact ⟨rfl, rfl⟩

theorem canon_any (b : Nat) (hb : b < 18446744073709551616) (w : World) : Calls Try.prog 75 #[.float .f64 b] w fun e w' => e = .returned (.float .f64 (canon b)) ∧ w = w' := by
  have hz := eq_zero b hb
  unfold ord at hz
  have K := Lib.hid (isnan_any b w)
  cases h : isN b with
  | true =>
    rw [h] at K
    have hc : canon b = NM := by rw [canon, if_pos h]
    rw [hc]
    clear h hc hz
    go_enter Try.func75, Try.ntmps75
    go_wp2_with fail
    refine K.out.mono ?_
    rintro e w1 ⟨rfl, rfl⟩
    go_wp2_with fail
    refine (none_any _).mono ?_
    rintro e w1 ⟨rfl, rfl⟩
    go_wp2
    go_ret
    exact ⟨rfl, rfl⟩
  | false =>
    rw [h] at K
    by_cases h0 : b = 0 ∨ b = 9223372036854775808
    · have hc : canon b = 0 := by
        rw [canon, h, if_neg (by decide)]
        rcases h0 with rfl | rfl
        · rfl
        · rfl
      rw [hc]
      have hz' : (FloatKind.f64.format.order b 0 == some .eq) = true := by rw [hz]; simpa using h0
      clear h h0 hc hz
      go_enter Try.func75, Try.ntmps75
      go_wp2_with fail
      refine K.out.mono ?_
      rintro e w1 ⟨rfl, rfl⟩
      go_wp2
      go_ret
      exact ⟨rfl, rfl⟩
    · have hc : canon b = b := by
        rw [canon, h, if_neg (by decide), if_neg (fun h1 => h0 (.inr h1))]
      rw [hc]
      have hz' : (FloatKind.f64.format.order b 0 == some .eq) = false := by rw [hz]; simpa using h0
      clear h h0 hc hz
      go_enter Try.func75, Try.ntmps75
      go_wp2_with fail
      refine K.out.mono ?_
      rintro e w1 ⟨rfl, rfl⟩
      go_wp2
      go_ret
      exact ⟨rfl, rfl⟩

theorem rcanon_any (b : Nat) (hb : b < 18446744073709551616) (w : World) : Calls Try.prog 76 #[.float .f64 b] w fun e w' => e = .returned (.float .f64 (canon b)) ∧ w = w' := by
  have hbits := mbits b
  have K := Lib.hid (rnan_any b hb w)
  cases h : isN b with
  | true =>
    rw [h] at K
    have hc : canon b = NM := by rw [canon, if_pos h]
    rw [hc]
    clear h hc
    go_enter Try.func76, Try.ntmps76
    go_wp2_with fail
    refine K.out.mono ?_
    rintro e w1 ⟨rfl, rfl⟩
    go_wp2_with fail
    refine (rnone_any _).mono ?_
    rintro e w1 ⟨rfl, rfl⟩
    go_wp2
    go_ret
    exact ⟨rfl, rfl⟩
  | false =>
    rw [h] at K
    by_cases h0 : b = 9223372036854775808
    · have hc : canon b = 0 := by rw [canon, h, if_neg (by decide), if_pos h0]
      rw [hc]
      have hz' : ((b : Int) == 9223372036854775808) = true := by rw [beq_iff_eq]; omega
      clear h h0 hc
      go_enter Try.func76, Try.ntmps76
      go_wp2_with fail
      refine K.out.mono ?_
      rintro e w1 ⟨rfl, rfl⟩
      go_wp2
      go_ret
      exact ⟨rfl, rfl⟩
    · have hc : canon b = b := by rw [canon, h, if_neg (by decide), if_neg h0]
      rw [hc]
      have hz' : ((b : Int) == 9223372036854775808) = false := by rw [beq_eq_false_iff_ne]; omega
      clear h h0 hc
      go_enter Try.func76, Try.ntmps76
      go_wp2_with fail
      refine K.out.mono ?_
      rintro e w1 ⟨rfl, rfl⟩
      go_wp2
      go_ret
      exact ⟨rfl, rfl⟩

def cellOf (c : UInt8) : Value := .int .u8 (c.toNat : Int)
/-- The bytes of a string. -/
abbrev bs (s : ByteArray) : List UInt8 := s.data.toList
theorem bs_length (s : ByteArray) : (bs s).length = s.size := rfl

theorem low_byte (x : Nat) (n : Int) (k : Nat) (hn : n = x) : Value.int .u8 (n / 2 ^ (8 * k) % 256) = cellOf (UInt8.ofNat (x / 256 ^ k)) := by
  subst hn
  unfold cellOf
  rw [UInt8.toNat_ofNat']
  have e : (2 : Int) ^ (8 * k) = ((256 ^ k : Nat) : Int) := by
    rw [Int.pow_mul]; simp
  rw [e]
  congr 1

/-- The eight cells behind k rounds. -/
def row8 (m k : Nat) : List Value := List.replicate (8 - k) (.int .u8 0) ++ (be k m).map cellOf
theorem row8_set (m k : Nat) (hk : k < 8) : (row8 m k).set (7 - k) (cellOf (UInt8.ofNat (m / 256 ^ k))) = row8 m (k + 1) := by
  obtain ⟨j, hj⟩ : ∃ j, 8 - k = j + 1 := ⟨7 - k, by omega⟩
  have hj' : 7 - k = j := by omega
  have hj2 : 8 - (k + 1) = j := by omega
  rw [row8, row8, hj, hj', hj2, List.replicate_succ', List.append_assoc, List.set_append_right _ _ (by simp)]
  simp [be]
theorem row8_get (m k : Nat) (hk : k < 8) : (row8 m k)[7 - k]? = some (.int .u8 0) := by
  rw [row8, List.getElem?_append_left (by simp; omega), List.getElem?_replicate, if_pos (by omega)]

theorem row8_bytes (m : Nat) (wr : World) (B : Nat) (hrow : wr.heap[B]? = some (.cells (row8 m 8).toArray 117 (0, 0))) :
    (convert 100 9 (.slice (some ⟨B, 0, none⟩) 8 8)).run Try.prog wr = .ok (.string ⟨(be 8 m).toArray⟩) wr := by
  have := run_convert_bytes_back (P := Try.prog) wr 100 9 5 ⟨B, 0, none⟩ 8 (be 8 m) Try.underlying100 Try.underlying5 Try.underlying9 (fun j hj => by
    have e : (⟨B, 0, none⟩ : Addr).add j = ⟨B, j, none⟩ := by unfold Addr.add; split <;> simp_all
    rw [e, cell_of_row _ _ _ _ _ _ hrow, List.getElem?_toArray, row8, List.replicate_zero, List.nil_append, List.getElem?_map, List.getElem?_eq_getElem hj]
    rfl)
  rw [Oct.be_length] at this
  exact this

set_option maxHeartbeats 1000000 in
theorem put_any (b : Nat) (hb : b < 18446744073709551616) (w : World) :
    Calls Try.prog 48 #[.float .f64 b] w fun e w' => e = .returned (.string ⟨(be 8 (canon b)).toArray⟩) ∧ Below w.heap.size w w' := by
  have hbits := mbits (canon b)
  have hm := canon_lt b hb
  obtain ⟨m, hmm⟩ : ∃ m, m = canon b := ⟨_, rfl⟩
  have K : ∀ W : World, Calls Try.prog 75 #[.float .f64 b] W fun e w' => e = .returned (.float .f64 m) ∧ W = w' := fun W => by rw [hmm]; exact canon_any b hb W
  rw [← hmm] at hbits hm ⊢
  have K1 := Lib.hid K
  clear hmm K
  go_enter Try.func48, Try.ntmps48
  go_wp2_with fail
  refine (K1.out _).mono ?_
  rintro e w1 ⟨rfl, rfl⟩
  go_wp2
  go_loopw [5, 9] (fun _ i wr => ∃ k : Nat, k ≤ 8 ∧ i = .int .i64 k ∧ wr.heap[w.heap.size]? = some (.cells (row8 m k).toArray 117 (0, 0)) ∧ Below w.heap.size w wr) (fun _ i _ => 8 - (intOf i).toNat)
  case atStart =>
    refine ⟨0, by omega, rfl, ?_, (Below.refl _ _).alloc (Nat.le_refl _) _⟩
    rw [heap_alloc_new]
    rfl
  case round =>
    obtain ⟨k, hk, rfl, hrow, hbel⟩ := hrel
    by_cases hlt : k < 8
    · have hcell : wr.cell? ⟨w.heap.size, 7 - k, none⟩ = some (.int .u8 0) := by
        rw [cell_of_row _ _ _ _ _ _ hrow, List.getElem?_toArray, row8_get _ _ hlt]
      have hfr : wr.frozen? ⟨w.heap.size, 7 - k, none⟩ = false := by simp [World.frozen?, hrow]
      have HR := Lib.hid hrow
      clear hrow
      go_wp2
      go_roundw
      case rel =>
        refine ⟨k + 1, by omega, by go_num, ?_, hbel.setCell (Nat.le_refl _) _⟩
        have hrow := HR.out
        rw [low_byte m (m : Int) k rfl, ← row8_set _ _ hlt]
        simp [World.setCell, Array.getElem?_modify, hrow]
      case measure => simp [intOf]; omega
    · have : k = 8 := by omega
      subst this
      have hcv := row8_bytes m wr w.heap.size hrow
      clear hrow
      go_wp2
      go_ret
      exact ⟨rfl, hbel⟩

/-- A string of one byte. -/
def ob (x : Nat) : ByteArray := ⟨[UInt8.ofNat x].toArray⟩
theorem one_byte (x : Nat) (y : Int) (hy : y = ((x % 256 : Nat) : Int)) (w : World) :
    (convert 100 9 (.slice (some ⟨w.heap.size, 0, none⟩) 1 1)).run Try.prog (w.alloc (.cells #[.int .u8 y] 5)) = .ok (.string (ob x)) (w.alloc (.cells #[.int .u8 y] 5)) := by
  subst hy
  exact run_convert_bytes_back (P := Try.prog) (w.alloc (.cells #[.int .u8 ((x % 256 : Nat) : Int)] 5)) 100 9 5 ⟨w.heap.size, 0, none⟩ 1 [UInt8.ofNat x] Try.underlying100 Try.underlying5 Try.underlying9 (fun j hj => by
    have h0 : j = 0 := by simp at hj; omega
    subst h0
    have e : (⟨w.heap.size, 0, none⟩ : Addr).add 0 = ⟨w.heap.size, 0, none⟩ := rfl
    rw [e, cell_of_row _ _ _ _ _ _ (heap_alloc_new w _)]
    simp)
theorem ob_cat (x : Nat) (l : List UInt8) : ob x ++ ⟨l.toArray⟩ = (⟨(UInt8.ofNat x :: l).toArray⟩ : ByteArray) := by
  apply ByteArray.ext
  simp [ob]
theorem ob_size (x : Nat) : (ob x).size = 1 := rfl
theorem div_pow (m k : Nat) : m / 256 ^ (k + 1) = m / 256 ^ k / 256 := by rw [Nat.pow_succ, Nat.div_div_eq_div_mul]

set_option maxHeartbeats 1000000 in
theorem rput_any (b : Nat) (hb : b < 18446744073709551616) (w : World) :
    Calls Try.prog 49 #[.float .f64 b] w fun e w' => e = .returned (.string ⟨(be 8 (canon b)).toArray⟩) ∧ Below w.heap.size w w' := by
  have hbits := mbits (canon b)
  have hm := canon_lt b hb
  obtain ⟨m, hmm⟩ : ∃ m, m = canon b := ⟨_, rfl⟩
  have K : ∀ W : World, Calls Try.prog 76 #[.float .f64 b] W fun e w' => e = .returned (.float .f64 m) ∧ W = w' := fun W => by rw [hmm]; exact rcanon_any b hb W
  rw [← hmm] at hbits hm ⊢
  have K1 := Lib.hid K
  clear hmm K
  go_enter Try.func49, Try.ntmps49
  go_wp2_with fail
  refine (K1.out _).mono ?_
  rintro e w1 ⟨rfl, rfl⟩
  go_wp2
  go_loopw [3, 4, 5] (fun v t i wr => ∃ k : Nat, k ≤ 8 ∧ i = .int .i64 k ∧ v = .int .u64 ((m / 256 ^ k : Nat) : Int) ∧ t = .string ⟨(be k m).toArray⟩ ∧ Below w.heap.size w wr) (fun _ _ i _ => 8 - (intOf i).toNat)
  case atStart => exact ⟨0, by omega, rfl, by simp, rfl, Below.refl _ _⟩
  case round =>
    obtain ⟨k, hk, rfl, rfl, rfl, hbel⟩ := hrel
    obtain ⟨x, hx⟩ : ∃ x, x = m / 256 ^ k := ⟨_, rfl⟩
    have hxl : x < 18446744073709551616 := by rw [hx]; exact Nat.lt_of_le_of_lt (Nat.div_le_self _ _) hm
    obtain ⟨t, ht⟩ : ∃ t : ByteArray, t = ⟨(be k m).toArray⟩ := ⟨_, rfl⟩
    have hts : t.size ≤ 8 := by rw [ht]; show (be k m).length ≤ 8; rw [Oct.be_length]; exact hk
    rw [← hx, ← ht]
    have HX := Lib.hid hx
    have HT := Lib.hid ht
    clear hx ht
    by_cases hlt : k < 8
    · have hob := one_byte x ((x : Int) % 256) (by omega)
      have hcat : ¬ 9223372036854775807 < (ob x).size + t.size := by rw [ob_size]; omega
      go_wp2
      go_roundw
      case rel =>
        refine ⟨k + 1, by omega, by go_num, ?_, ?_, hbel.alloc hbel.size _⟩
        · rw [div_pow, ← HX.out]; go_num
        · rw [HT.out, ob_cat, HX.out]; rfl
      case measure => simp [intOf]; omega
    · have : k = 8 := by omega
      subst this
      go_wp2
      go_ret
      exact ⟨by rw [← HT.out]; rfl, hbel⟩


/-- The mark of bytes, or what is wrong with them. -/
def gm (l : List UInt8) : Nat × Nat := if l.length < 8 then (0, 3) else if 8 < l.length then (0, 4) else if be 8 (canon (val l)) = l then (val l, 0) else (0, 2)
/-- Two results: a mark and a number. -/
def two (r : Nat × Nat) : Ending := .returned (.tuple #[.float .f64 r.1, .int .i64 r.2])
theorem gm_be (b : Nat) (hb : b < 18446744073709551616) : gm (be 8 (canon b)) = (canon b, 0) := by
  have hv : val (be 8 (canon b)) = canon b := by
    rw [Oct.val_be, Nat.mod_eq_of_lt (by have := canon_lt b hb; simpa using this)]
  rw [gm, Oct.be_length, if_neg (by omega), if_neg (by omega), hv, canon_idem, if_pos rfl]
theorem gm_lt (l : List UInt8) : (gm l).1 < 18446744073709551616 := by
  unfold gm
  split
  · simp
  · split
    · simp
    · split
      · have := val_lt l
        have h8 : l.length = 8 := by omega
        rw [h8] at this; simpa using this
      · simp
theorem toList_beq (a b : ByteArray) : (a.toList == b.toList) = decide (bs a = bs b) := by
  rw [ByteArray.toList_eq, ByteArray.toList_eq, Bool.eq_iff_iff]; simp
theorem eq_false' {a b : ByteArray} (h : bs a ≠ bs b) : (a.toList == b.toList) = false := by rw [toList_beq]; simpa using h
theorem eq_true' {a b : ByteArray} (h : bs a = bs b) : (a.toList == b.toList) = true := by rw [toList_beq]; simpa using h
theorem or_u64 (v c : Nat) (h1 : v < 72057594037927936) (hc : c < 256) : bits .or .u64 ((v : Int) * 256) (c : Int) = (v : Int) * 256 + c := by
  have := u64_or_nat (v * 256) c (by omega) (by omega)
  have hx : v * 256 ||| c = v * 256 + c := by
    rw [show v * 256 = v <<< 8 from by rw [Nat.shiftLeft_eq]]
    exact (Nat.shiftLeft_add_eq_or_of_lt (by omega) v).symm
  rw [hx] at this
  have e1 : ((v : Int) * 256) = ((v * 256 : Nat) : Int) := by omega
  rw [e1, this]; omega

theorem get_short (s : ByteArray) (w : World) (hl : (s.size : Int) < 8) :
    Calls Try.prog 77 #[.string s] w fun e w' => e = two (0, 3) ∧ w = w' := by
  go_enter Try.func77, Try.ntmps77
  go_wp2
  go_ret2
  exact ⟨rfl, rfl⟩

theorem get_tail (s : ByteArray) (w : World) (hl : 8 < (s.size : Int)) :
    Calls Try.prog 77 #[.string s] w fun e w' => e = two (0, 4) ∧ w = w' := by
  go_enter Try.func77, Try.ntmps77
  go_wp2
  go_ret2
  exact ⟨rfl, rfl⟩

set_option maxHeartbeats 1000000 in
theorem get_eight (s : ByteArray) (w : World) (hl : s.size = 8) :
    Calls Try.prog 77 #[.string s] w fun e w' => e = two (gm (bs s)) ∧ Below w.heap.size w w' := by
  have hbl : (bs s).length = 8 := hl
  have hm : val (bs s) < 18446744073709551616 := by
    have := val_lt (bs s); rw [hbl] at this; simpa using this
  have hl' : (s.size : Int) = 8 := by omega
  obtain ⟨m, hmm⟩ : ∃ m, m = val (bs s) := ⟨_, rfl⟩
  obtain ⟨q, hq⟩ : ∃ q : ByteArray, q = ⟨(be 8 (canon m)).toArray⟩ := ⟨_, rfl⟩
  rw [← hmm] at hm
  have hfrom := mfrom m
  have K : ∀ W : World, Calls Try.prog 48 #[.float .f64 m] W fun e w' => e = .returned (.string q) ∧ Below W.heap.size W w' := fun W => by rw [hq]; exact put_any m hm W
  have K1 := Lib.hid K
  have hgm : gm (bs s) = if be 8 (canon m) = bs s then (m, 0) else (0, 2) := by
    rw [gm, hbl, if_neg (by omega), if_neg (by omega), hmm]
  have hbq : bs q = be 8 (canon m) := by rw [hq]
  rw [← hbq] at hgm
  obtain ⟨r, hr⟩ : ∃ r, r = gm (bs s) := ⟨_, rfl⟩
  rw [← hr] at hgm ⊢
  have KR := Lib.hid hgm
  clear hr
  have H8 := Lib.hid hbl
  have HM := Lib.hid hmm
  have hsz := hl
  clear hbl hq hbq hgm hmm K hl
  have hin : ∀ k : Nat, k < 8 → k < s.size := fun k h => by omega
  clear hsz
  go_enter Try.func77, Try.ntmps77
  go_wp2
  go_loop [4, 5, 13] (fun u _ i => ∃ k : Nat, k ≤ 8 ∧ i = .int .i64 k ∧ u = .int .u64 ((val ((bs s).take k) : Nat) : Int)) (fun _ _ i => 8 - (intOf i).toNat)
  case atStart => exact ⟨0, by omega, rfl, rfl⟩
  case round =>
    obtain ⟨k, hk, rfl, rfl⟩ := hrel
    obtain ⟨v, hv⟩ : ∃ v, v = val ((bs s).take k) := ⟨_, rfl⟩
    have hv7 : k < 8 → v < 72057594037927936 := by
      intro h
      have := Oct.val_take_lt (bs s) k
      have h7 : 256 ^ k ≤ 256 ^ 7 := Nat.pow_le_pow_right (by omega) (by omega)
      rw [hv]
      exact Nat.lt_of_lt_of_le this (Nat.le_trans h7 (by decide +kernel))
    rw [← hv]
    have HV := Lib.hid hv
    clear hv
    by_cases hlt : k < 8
    · have hks := hin k hlt
      have hc := s[k].toNat_lt
      have hv8 := hv7 hlt
      have hnext : val ((bs s).take (k + 1)) = v * 256 + s[k].toNat := by
        rw [Oct.val_take_succ (bs s) k hks, ← HV.out]; rfl
      have HN := Lib.hid hnext
      clear hv7 hin hnext
      have hor := or_u64 v s[k].toNat hv8 hc
      go_wp2
      go_round
      case rel => exact ⟨k + 1, by omega, by go_num, by rw [HN.out]; go_num⟩
      case measure => simp [intOf]; omega
    · have : k = 8 := by omega
      subst this
      have hvm : v = m := by
        rw [HV.out, HM.out]; congr 1; exact List.take_of_length_le (by rw [H8.out]; omega)
      subst hvm
      clear hv7 hin
      by_cases hcmp : bs q = bs s
      · have t1 := eq_true' hcmp
        have hr2 : r = (v, 0) := by rw [KR.out, if_pos hcmp]
        have KC := Lib.hid hr2
        clear hr2
        clear hcmp
        go_wp2_with fail
        refine (K1.out _).mono ?_
        rintro e w1 ⟨rfl, b1⟩
        go_wp2
        go_ret2
        exact ⟨by rw [KC.out]; rfl, b1⟩
      · have t1 := eq_false' hcmp
        have hr2 : r = (0, 2) := by rw [KR.out, if_neg hcmp]
        have KC := Lib.hid hr2
        clear hr2
        clear hcmp
        go_wp2_with fail
        refine (K1.out _).mono ?_
        rintro e w1 ⟨rfl, b1⟩
        go_wp2
        go_ret2
        exact ⟨by rw [KC.out]; rfl, b1⟩

theorem get_any (s : ByteArray) (w : World) :
    Calls Try.prog 77 #[.string s] w fun e w' => e = two (gm (bs s)) ∧ Below w.heap.size w w' := by
  by_cases h1 : s.size < 8
  · refine (get_short s w (by omega)).mono fun e w' ⟨he, hw⟩ => ?_
    subst hw
    rw [gm, if_pos (by rw [bs_length]; exact h1)]
    exact ⟨he, Below.refl _ _⟩
  · by_cases h2 : 8 < s.size
    · refine (get_tail s w (by omega)).mono fun e w' ⟨he, hw⟩ => ?_
      subst hw
      rw [gm, if_neg (by rw [bs_length]; omega), if_pos (by rw [bs_length]; exact h2)]
      exact ⟨he, Below.refl _ _⟩
    · exact get_eight s w (by omega)

theorem rget_short (s : ByteArray) (w : World) (hl : (s.size : Int) < 8) :
    Calls Try.prog 54 #[.string s] w fun e w' => e = two (0, 3) ∧ w = w' := by
  go_enter Try.func54, Try.ntmps54
  go_wp2
  go_ret2
  exact ⟨rfl, rfl⟩

theorem rget_tail (s : ByteArray) (w : World) (hl : 8 < (s.size : Int)) :
    Calls Try.prog 54 #[.string s] w fun e w' => e = two (0, 4) ∧ w = w' := by
  go_enter Try.func54, Try.ntmps54
  go_wp2
  go_ret2
  exact ⟨rfl, rfl⟩

set_option maxHeartbeats 1000000 in
theorem rget_eight (s : ByteArray) (w : World) (hl : s.size = 8) :
    Calls Try.prog 54 #[.string s] w fun e w' => e = two (gm (bs s)) ∧ Below w.heap.size w w' := by
  have hbl : (bs s).length = 8 := hl
  have hm : val (bs s) < 18446744073709551616 := by
    have := val_lt (bs s); rw [hbl] at this; simpa using this
  have hl' : (s.size : Int) = 8 := by omega
  obtain ⟨m, hmm⟩ : ∃ m, m = val (bs s) := ⟨_, rfl⟩
  obtain ⟨q, hq⟩ : ∃ q : ByteArray, q = ⟨(be 8 (canon m)).toArray⟩ := ⟨_, rfl⟩
  rw [← hmm] at hm
  have hfrom := mfrom m
  have K : ∀ W : World, Calls Try.prog 49 #[.float .f64 m] W fun e w' => e = .returned (.string q) ∧ Below W.heap.size W w' := fun W => by rw [hq]; exact rput_any m hm W
  have K1 := Lib.hid K
  have hgm : gm (bs s) = if be 8 (canon m) = bs s then (m, 0) else (0, 2) := by
    rw [gm, hbl, if_neg (by omega), if_neg (by omega), hmm]
  have hbq : bs q = be 8 (canon m) := by rw [hq]
  rw [← hbq] at hgm
  obtain ⟨r, hr⟩ : ∃ r, r = gm (bs s) := ⟨_, rfl⟩
  rw [← hr] at hgm ⊢
  have KR := Lib.hid hgm
  clear hr
  have H8 := Lib.hid hbl
  have HM := Lib.hid hmm
  have hsz := hl
  clear hbl hq hbq hgm hmm K hl
  have hin : ∀ k : Nat, k < 8 → k < s.size := fun k h => by omega
  clear hsz
  go_enter Try.func54, Try.ntmps54
  go_wp2
  go_loop [4, 5] (fun u i => ∃ k : Nat, k ≤ 8 ∧ i = .int .i64 k ∧ u = .int .u64 ((val ((bs s).take k) : Nat) : Int)) (fun _ i => 8 - (intOf i).toNat)
  case atStart => exact ⟨0, by omega, rfl, rfl⟩
  case round =>
    obtain ⟨k, hk, rfl, rfl⟩ := hrel
    obtain ⟨v, hv⟩ : ∃ v, v = val ((bs s).take k) := ⟨_, rfl⟩
    have hv7 : k < 8 → v < 72057594037927936 := by
      intro h
      have := Oct.val_take_lt (bs s) k
      have h7 : 256 ^ k ≤ 256 ^ 7 := Nat.pow_le_pow_right (by omega) (by omega)
      rw [hv]
      exact Nat.lt_of_lt_of_le this (Nat.le_trans h7 (by decide +kernel))
    rw [← hv]
    have HV := Lib.hid hv
    clear hv
    by_cases hlt : k < 8
    · have hks := hin k hlt
      have hc := s[k].toNat_lt
      have hv8 := hv7 hlt
      have hnext : val ((bs s).take (k + 1)) = v * 256 + s[k].toNat := by
        rw [Oct.val_take_succ (bs s) k hks, ← HV.out]; rfl
      have HN := Lib.hid hnext
      clear hv7 hin hnext
      go_wp2
      go_round
      case rel => exact ⟨k + 1, by omega, by go_num, by rw [HN.out]; go_num⟩
      case measure => simp [intOf]; omega
    · have : k = 8 := by omega
      subst this
      have hvm : v = m := by
        rw [HV.out, HM.out]; congr 1; exact List.take_of_length_le (by rw [H8.out]; omega)
      subst hvm
      clear hv7 hin
      by_cases hcmp : bs q = bs s
      · have t1 := eq_true' hcmp
        have hr2 : r = (v, 0) := by rw [KR.out, if_pos hcmp]
        have KC := Lib.hid hr2
        clear hr2
        clear hcmp
        go_wp2_with fail
        refine (K1.out _).mono ?_
        rintro e w1 ⟨rfl, b1⟩
        go_wp2
        go_ret2
        exact ⟨by rw [KC.out]; rfl, b1⟩
      · have t1 := eq_false' hcmp
        have hr2 : r = (0, 2) := by rw [KR.out, if_neg hcmp]
        have KC := Lib.hid hr2
        clear hr2
        clear hcmp
        go_wp2_with fail
        refine (K1.out _).mono ?_
        rintro e w1 ⟨rfl, b1⟩
        go_wp2
        go_ret2
        exact ⟨by rw [KC.out]; rfl, b1⟩

theorem rget_any (s : ByteArray) (w : World) :
    Calls Try.prog 54 #[.string s] w fun e w' => e = two (gm (bs s)) ∧ Below w.heap.size w w' := by
  by_cases h1 : s.size < 8
  · refine (rget_short s w (by omega)).mono fun e w' ⟨he, hw⟩ => ?_
    subst hw
    rw [gm, if_pos (by rw [bs_length]; exact h1)]
    exact ⟨he, Below.refl _ _⟩
  · by_cases h2 : 8 < s.size
    · refine (rget_tail s w (by omega)).mono fun e w' ⟨he, hw⟩ => ?_
      subst hw
      rw [gm, if_neg (by rw [bs_length]; omega), if_pos (by rw [bs_length]; exact h2)]
      exact ⟨he, Below.refl _ _⟩
    · exact rget_eight s w (by omega)

end Go.Proofs.Ytbkfbejbloclgaa.Mk
