/-
  The walks of the document's plain Wrap, of frame.Open and the plain Open.
-/
import Derived.Test.YtgbpofgmomglfaaDoorFrRefSum
import Derived.Test.YtgbpofgmomglfaaDoorOctRefPut
import Derived.Test.YtgbpofgmomglfaaDoorOctGet
import Derived.Deep.RegionWith
import Derived.Lib.AppendStr
namespace Go.Proofs.YtgbpofgmomglfaaDoor.Crc
set_option maxRecDepth 100000
open Go.RowKit
open Oct (bs u8v)

theorem take4_succ (v k : Nat) (hk : k < 4) : (le4 v).take (k + 1) = (le4 v).take k ++ [UInt8.ofNat (v / 256 ^ k)] := by
  rw [List.take_succ_eq_append_getElem (show k < (le4 v).length by rw [le4_len]; exact hk), le4_get v k hk]

theorem rwrap_big (s : ByteArray) (w : World) (hs : 1048576 < (s.size : Int)) :
    Calls Tryd.prog 19 #[.string s] w fun e w' => e = .returned (.string ⟨#[]⟩) ∧ w = w' := by
  go_enter Tryd.func19, Tryd.ntmps19
  go_wp2
  go_ret
  exact ⟨rfl, rfl⟩

set_option maxHeartbeats 1000000 in
theorem rwrap_in (s : ByteArray) (w : World) (hs : (s.size : Int) ≤ 1048576) :
    Calls Tryd.prog 19 #[.string s] w fun e w' => e = .returned (.string ⟨(wr (bs s)).toArray⟩) ∧ Below w.heap.size w w' := by
  obtain ⟨p, hp⟩ : ∃ p : ByteArray, p = ⟨(Oct.pb s.size).toArray⟩ := ⟨_, rfl⟩
  have hbp : bs p = Oct.pb s.size := by rw [hp]
  have hps : p.size ≤ 8 := by rw [← Oct.bs_length, hbp]; exact pb_len8 _
  have hcat : bs (p ++ s) = Oct.pb s.size ++ bs s := by rw [← hbp]; simp [bs]
  have hsz : (p ++ s).size = p.size + s.size := by simp
  have hlt := sum_lt (bs (p ++ s))
  have H1 : ∀ W : World, Calls Tryd.prog 37 #[.int .i64 s.size] W fun e w' => e = .returned (.string p) ∧ Below W.heap.size W w' := fun W => by rw [hp]; exact Oct.rput_any _ W
  have H2 : ∀ W : World, Calls Tryd.prog 38 #[.string (p ++ s)] W fun e w' => e = .returned (.int .u32 ((sum (bs (p ++ s)) : Nat) : Int)) ∧ W = w' := fun W => rsum_any (p ++ s) W (by omega)
  obtain ⟨t, ht⟩ : ∃ t, t = p ++ s := ⟨_, rfl⟩
  have hts : t.size ≤ 1048600 := by rw [ht]; omega
  rw [← ht] at H2 hlt
  have hfin : ∀ q : ByteArray, q = ⟨((bs t) ++ (le4 (sum (bs t))).take 4).toArray⟩ → q = ⟨(wr (bs s)).toArray⟩ := by
    intro q hq
    rw [hq, List.take_of_length_le (by rw [le4_len]; omega), wr, if_neg (by rw [Oct.bs_length]; omega), Oct.bs_length, ht, hcat]
  have hc1 : ¬ 9223372036854775807 < p.size + s.size := by omega
  obtain ⟨v, hv⟩ : ∃ v, v = sum (bs t) := ⟨_, rfl⟩
  rw [← hv] at hlt hfin H2
  have K1 := Lib.hid H1
  have K2 := Lib.hid H2
  have KF := Lib.hid hfin
  have KT := Lib.hid ht
  clear hp hbp hcat hv hfin H1 H2 hsz ht
  go_enter Tryd.func19, Tryd.ntmps19
  go_wp2_with fail
  refine (K1.out _).mono ?_
  rintro e w1 ⟨rfl, b1⟩
  have hpt : p ++ s = t := KT.out.symm
  go_wp2_with fail
  clear hpt
  refine (K2.out _).mono ?_
  rintro e w2 ⟨rfl, rfl⟩
  go_wp2
  obtain ⟨wo, hwo⟩ : ∃ wo : World, wo = w1 := ⟨_, rfl⟩
  rw [← hwo] at b1 ⊢
  clear hwo
  go_loopw [3, 4, 5] (fun st c i wr => ∃ k : Nat, k ≤ 4 ∧ i = .int .i64 k ∧ c = .int .u32 ((v / 256 ^ k : Nat) : Int) ∧ st = .string ⟨(bs t ++ (le4 v).take k).toArray⟩ ∧ Below w.heap.size w wr) (fun _ _ i _ => 4 - (intOf i).toNat)
  case atStart =>
    refine ⟨0, by omega, rfl, by simp, ?_, b1⟩
    simp [bs]
  case round =>
    obtain ⟨k, hk, rfl, rfl, rfl, hbel⟩ := hrel
    obtain ⟨q, hq⟩ : ∃ q : ByteArray, q = ⟨(bs t ++ (le4 v).take k).toArray⟩ := ⟨_, rfl⟩
    have hqs : q.size ≤ 1048604 := by
      rw [hq]
      show (bs t ++ (le4 v).take k).length ≤ _
      rw [List.length_append, List.length_take, le4_len, Oct.bs_length]; omega
    obtain ⟨x, hx⟩ : ∃ x, x = v / 256 ^ k := ⟨_, rfl⟩
    have hxl : x < 4294967296 := by rw [hx]; exact Nat.lt_of_le_of_lt (Nat.div_le_self _ _) hlt
    rw [← hq, ← hx]
    have HX := Lib.hid hx
    have HQ := Lib.hid hq
    clear hx hq
    by_cases hk4 : k < 4
    · have hob := Oct.one_byte x ((x : Int) % 256) (by omega)
      have hcat : ¬ 9223372036854775807 < q.size + (Oct.ob x).size := by rw [Oct.ob_size]; omega
      go_wp2
      go_roundw
      case rel =>
        refine ⟨k + 1, by omega, by go_num, ?_, ?_, hbel.alloc hbel.size _⟩
        · rw [Oct.div_pow, ← HX.out]; go_num
        · rw [HQ.out, take4_succ v k hk4, Oct.ob, cat_mk, HX.out, List.append_assoc]
      case measure => simp [intOf]; omega
    · have : k = 4 := by omega
      subst this
      have hres := KF.out q HQ.out
      have HR := Lib.hid hres
      clear hres
      go_wp2
      go_ret
      exact ⟨by rw [← HR.out]; rfl, hbel⟩

/-- The plain Wrap, whatever the body. -/
theorem rwrap_any (s : ByteArray) (w : World) :
    Calls Tryd.prog 19 #[.string s] w fun e w' => e = .returned (.string ⟨(wr (bs s)).toArray⟩) ∧ Below w.heap.size w w' := by
  by_cases hs : (s.size : Int) ≤ 1048576
  · exact rwrap_in s w hs
  · refine (rwrap_big s w (by omega)).mono fun e w' ⟨he, hw⟩ => ?_
    subst hw
    rw [wr, if_pos (by rw [Oct.bs_length]; omega)]
    exact ⟨he, Below.refl _ _⟩

end Go.Proofs.YtgbpofgmomglfaaDoor.Crc
