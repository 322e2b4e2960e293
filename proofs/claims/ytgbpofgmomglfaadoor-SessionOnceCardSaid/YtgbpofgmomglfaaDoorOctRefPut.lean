/-
  The walks of the document's plain Put and Get.
-/
import Derived.Test.YtgbpofgmomglfaaDoorOctPut
namespace Go.Proofs.YtgbpofgmomglfaaDoor.Oct
open Go.RowKit

set_option maxHeartbeats 400000 in
theorem rput_out (n : Int) (w : World) (h : n < -9007199254740992 ∨ 9007199254740992 < n) :
    Calls Tryd.prog 37 #[.int .i64 n] w fun e w' => e = .returned (.string ⟨#[]⟩) ∧ w = w' := by
  rcases h with h | h
  · go_enter Tryd.func37, Tryd.ntmps37
    go_wp2
    go_ret
    exact ⟨rfl, rfl⟩
  · have h2 : -9007199254740992 ≤ n := by omega
    go_enter Tryd.func37, Tryd.ntmps37
    go_wp2
    go_ret
    exact ⟨rfl, rfl⟩

/-- A string of one byte. -/
def ob (x : Nat) : ByteArray := ⟨[UInt8.ofNat x].toArray⟩
theorem one_byte (x : Nat) (y : Int) (hy : y = ((x % 256 : Nat) : Int)) (w : World) :
    (convert 91 9 (.slice (some ⟨w.heap.size, 0, none⟩) 1 1)).run Tryd.prog (w.alloc (.cells #[.int .u8 y] 5)) = .ok (.string (ob x)) (w.alloc (.cells #[.int .u8 y] 5)) := by
  subst hy
  exact run_convert_bytes_back (P := Tryd.prog) (w.alloc (.cells #[.int .u8 ((x % 256 : Nat) : Int)] 5)) 91 9 5 ⟨w.heap.size, 0, none⟩ 1 [UInt8.ofNat x] Tryd.underlying91 Tryd.underlying5 Tryd.underlying9 (fun j hj => by
    have h0 : j = 0 := by simp at hj; omega
    subst h0
    have e : (⟨w.heap.size, 0, none⟩ : Addr).add 0 = ⟨w.heap.size, 0, none⟩ := rfl
    rw [e, cell_of_row _ _ _ _ _ _ (heap_alloc_new w _)]
    simp)

theorem ob_cat (x : Nat) (l : List UInt8) : ob x ++ ⟨l.toArray⟩ = (⟨(UInt8.ofNat x :: l).toArray⟩ : ByteArray) := by
  apply ByteArray.ext
  simp [ob]
theorem ob_size (x : Nat) : (ob x).size = 1 := rfl
theorem be_div (k m : Nat) : be (k + 1) m = UInt8.ofNat (m / 256 ^ k) :: be k m := rfl
theorem div_pow (m k : Nat) : m / 256 ^ (k + 1) = m / 256 ^ k / 256 := by rw [Nat.pow_succ, Nat.div_div_eq_div_mul]

set_option maxRecDepth 100000 in
set_option maxHeartbeats 1000000 in
theorem rput_in (n : Int) (w : World) (h1 : -9007199254740992 ≤ n) (h2 : n ≤ 9007199254740992) (h0 : 0 ≤ n) :
    Calls Tryd.prog 37 #[.int .i64 n] w fun e w' => e = .returned (.string ⟨(pb n).toArray⟩) ∧ Below w.heap.size w w' := by
  go_enter Tryd.func37, Tryd.ntmps37
  go_wp2
  go_loopw [0, 4] (fun m s wr => ∃ k : Nat, k ≤ 7 ∧ wid n.natAbs = k + wid (n.natAbs / 256 ^ k) ∧ m = .int .i64 ((n.natAbs / 256 ^ k : Nat) : Int) ∧ s = .string ⟨(be k n.natAbs).toArray⟩ ∧ Below w.heap.size w wr) (fun m _ _ => (intOf m).toNat)
  case atStart => refine ⟨0, by omega, by simp, by simp; omega, rfl, Below.refl _ _⟩
  case round =>
    obtain ⟨k, hk, hwk, rfl, rfl, hbel⟩ := hrel
    have hw7 := wid7 n.natAbs (by omega)
    obtain ⟨m, hm⟩ : ∃ m, m = n.natAbs / 256 ^ k := ⟨_, rfl⟩
    rw [← hm] at hwk
    rw [← hm]
    have hm2 : m ≤ 9007199254740992 := by
      rw [hm]
      exact Nat.le_trans (Nat.div_le_self _ _) (by omega)
    have hmw : 0 < m → k + 1 ≤ 7 := by
      intro h
      have := wid_step m (by have := big; omega)
      rw [if_neg (by omega)] at this
      omega
    obtain ⟨t, ht⟩ : ∃ t : ByteArray, t = ⟨(be k n.natAbs).toArray⟩ := ⟨_, rfl⟩
    have hts : t.size = k := by rw [ht]; exact be_length k _
    rw [← ht]
    have HM := Lib.hid hm
    have HT := Lib.hid ht
    have HWK := Lib.hid hwk
    have HTS := Lib.hid hts
    have ht7 : t.size ≤ 7 := by omega
    clear hm ht hwk hts hw7
    by_cases hlt : 0 < m
    · have hob := one_byte m ((m : Int) % 256) (by omega)
      have hcat : ¬ 9223372036854775807 < (ob m).size + t.size := by rw [ob_size]; omega
      have hk7 := hmw hlt
      clear hmw
      go_wp2
      go_roundw
      case rel =>
        have hwk := HWK.out
        have hm := HM.out
        refine ⟨k + 1, by omega, ?_, ?_, ?_, hbel.alloc hbel.size _⟩
        · rw [div_pow, ← hm, hwk, wid_step m (by have := big; omega), if_neg (by omega)]; omega
        · rw [div_pow, ← hm]; rfl
        · rw [HT.out, ob_cat, be_div, ← hm]
      case measure => simp [intOf]; omega
    · clear hmw
      have hob := one_byte (t.size) ((t.size : Int)) (by omega)
      have hcat : ¬ 9223372036854775807 < (ob (t.size)).size + t.size := by rw [ob_size]; omega
      go_wp2
      go_ret
      refine ⟨?_, hbel.alloc hbel.size _⟩
      have hwk := HWK.out
      have hm0 : m = 0 := by omega
      rw [hm0, wid_zero, Nat.add_zero] at hwk
      rw [pb_sign n h1 h2 false (by constructor <;> intro h <;> first | omega | cases h) k hwk.symm]
      have hf : ob (t.size) ++ t = ⟨(fstB false k :: be k n.natAbs).toArray⟩ := by
        rw [HTS.out, HT.out, ob_cat, fstB, if_neg (by decide), Nat.zero_add]
      rw [← hf]
      rfl

set_option maxRecDepth 100000 in
set_option maxHeartbeats 1000000 in
theorem rput_minus (n : Int) (w : World) (h1 : -9007199254740992 ≤ n) (h2 : n ≤ 9007199254740992) (h0 : n < 0) :
    Calls Tryd.prog 37 #[.int .i64 n] w fun e w' => e = .returned (.string ⟨(pb n).toArray⟩) ∧ Below w.heap.size w w' := by
  go_enter Tryd.func37, Tryd.ntmps37
  go_wp2
  go_loopw [0, 4] (fun m s wr => ∃ k : Nat, k ≤ 7 ∧ wid n.natAbs = k + wid (n.natAbs / 256 ^ k) ∧ m = .int .i64 ((n.natAbs / 256 ^ k : Nat) : Int) ∧ s = .string ⟨(be k n.natAbs).toArray⟩ ∧ Below w.heap.size w wr) (fun m _ _ => (intOf m).toNat)
  case atStart => refine ⟨0, by omega, by simp, by simp; omega, rfl, Below.refl _ _⟩
  case round =>
    obtain ⟨k, hk, hwk, rfl, rfl, hbel⟩ := hrel
    have hw7 := wid7 n.natAbs (by omega)
    obtain ⟨m, hm⟩ : ∃ m, m = n.natAbs / 256 ^ k := ⟨_, rfl⟩
    rw [← hm] at hwk
    rw [← hm]
    have hm2 : m ≤ 9007199254740992 := by
      rw [hm]
      exact Nat.le_trans (Nat.div_le_self _ _) (by omega)
    have hmw : 0 < m → k + 1 ≤ 7 := by
      intro h
      have := wid_step m (by have := big; omega)
      rw [if_neg (by omega)] at this
      omega
    obtain ⟨t, ht⟩ : ∃ t : ByteArray, t = ⟨(be k n.natAbs).toArray⟩ := ⟨_, rfl⟩
    have hts : t.size = k := by rw [ht]; exact be_length k _
    rw [← ht]
    have HM := Lib.hid hm
    have HT := Lib.hid ht
    have HWK := Lib.hid hwk
    have HTS := Lib.hid hts
    have ht7 : t.size ≤ 7 := by omega
    clear hm ht hwk hts hw7
    by_cases hlt : 0 < m
    · have hob := one_byte m ((m : Int) % 256) (by omega)
      have hcat : ¬ 9223372036854775807 < (ob m).size + t.size := by rw [ob_size]; omega
      have hk7 := hmw hlt
      clear hmw
      go_wp2
      go_roundw
      case rel =>
        have hwk := HWK.out
        have hm := HM.out
        refine ⟨k + 1, by omega, ?_, ?_, ?_, hbel.alloc hbel.size _⟩
        · rw [div_pow, ← hm, hwk, wid_step m (by have := big; omega), if_neg (by omega)]; omega
        · rw [div_pow, ← hm]; rfl
        · rw [HT.out, ob_cat, be_div, ← hm]
      case measure => simp [intOf]; omega
    · clear hmw
      have hob := one_byte (128 + t.size) (128 + (t.size : Int)) (by omega)
      have hcat : ¬ 9223372036854775807 < (ob (128 + t.size)).size + t.size := by rw [ob_size]; omega
      go_wp2
      go_ret
      refine ⟨?_, hbel.alloc hbel.size _⟩
      have hwk := HWK.out
      have hm0 : m = 0 := by omega
      rw [hm0, wid_zero, Nat.add_zero] at hwk
      rw [pb_sign n h1 h2 true (by constructor <;> intro h <;> first | rfl | exact h0) k hwk.symm]
      have hf : ob (128 + t.size) ++ t = ⟨(fstB true k :: be k n.natAbs).toArray⟩ := by
        rw [HTS.out, HT.out, ob_cat]; rfl
      rw [← hf]
      rfl

/-- The plain Put, whatever the number. -/
theorem rput_any (n : Int) (w : World) :
    Calls Tryd.prog 37 #[.int .i64 n] w fun e w' => e = .returned (.string ⟨(pb n).toArray⟩) ∧ Below w.heap.size w w' := by
  by_cases h : n < -9007199254740992 ∨ 9007199254740992 < n
  · refine (rput_out n w h).mono fun e w' ⟨he, hw⟩ => ?_
    subst hw
    rw [pb, if_pos h]
    exact ⟨he, Below.refl _ _⟩
  · by_cases h0 : 0 ≤ n
    · exact rput_in n w (by omega) (by omega) h0
    · exact rput_minus n w (by omega) (by omega) (by omega)

end Go.Proofs.YtgbpofgmomglfaaDoor.Oct
