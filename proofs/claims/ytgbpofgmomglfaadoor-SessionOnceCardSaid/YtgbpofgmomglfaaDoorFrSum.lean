/-
  The walks of frame.Sum and of the document's plain Sum.
-/
import Derived.Test.YtgbpofgmomglfaaDoorOctPut
import Derived.Test.YtgbpofgmomglfaaDoorCrcMath
import Derived.Laws.BitsAllLaws
namespace Go.Proofs.YtgbpofgmomglfaaDoor.Crc
open Go.RowKit
open Oct (bs)

/-- The table's sixteen cells. -/
def Steps (w : World) : Prop := ∀ k : Nat, k < 16 → w.cell? ⟨0, k, none⟩ = some (.int .u32 ((t4 k : Nat) : Int))

theorem run_take_succ (s : ByteArray) (k : Nat) (h : k < s.size) : run 4294967295 ((bs s).take (k + 1)) = feed (run 4294967295 ((bs s).take k)) s[k] := by
  rw [List.take_succ_eq_append_getElem (show k < (bs s).length from h), run_append]; rfl

theorem and15 (x : Nat) (h : x < 4294967296) : bits .and .u32 (x : Int) 15 = ((x % 16 : Nat) : Int) := by
  have := u32_and_nat x 15 h (by omega)
  rw [show (15 : Nat) = 2 ^ 4 - 1 from rfl, Nat.and_two_pow_sub_one_eq_mod] at this
  exact this

/-- A step by four bits, in the walk's words. -/
theorem nibble (x : Nat) (h : x < 4294967296) : ∃ q : Nat, q < 16 ∧ bits .and .u32 (x : Int) 15 = (q : Int) ∧ bits .xor .u32 ((x : Int) / 16) ((t4 q : Nat) : Int) = ((t4 x : Nat) : Int) := by
  refine ⟨x % 16, Nat.mod_lt _ (by omega), and15 x h, ?_⟩
  rw [t4_nibble x]
  exact u32_xor_nat (x / 16) (t4 (x % 16)) (by omega) (t4_lt (by omega))

theorem not_u32 (r : Nat) (h : r < 4294967296) : bits .xor .u32 IntKind.u32.max (r : Int) = ((4294967295 - r : Nat) : Int) := by
  rw [← compl r h]
  exact u32_xor_nat 4294967295 r (by omega) h

set_option maxHeartbeats 1000000 in
theorem sum_any (s : ByteArray) (w : World) (hs : s.size ≤ 9223372036854775807) (hst : Steps w) :
    Calls Tryd.prog 69 #[.string s] w fun e w' => e = .returned (.int .u32 ((sum (bs s) : Nat) : Int)) ∧ w = w' := by
  have HS := Lib.hid hst
  clear hst
  go_enter Tryd.func69, Tryd.ntmps69
  go_wp2
  go_loop [3, 7] (fun r i => ∃ k : Nat, k ≤ s.size ∧ i = .int .i64 k ∧ r = .int .u32 ((run 4294967295 ((bs s).take k) : Nat) : Int)) (fun _ i => s.size - (intOf i).toNat)
  case atStart => exact ⟨0, by omega, rfl, rfl⟩
  case round =>
    obtain ⟨k, hk, rfl, rfl⟩ := hrel
    obtain ⟨r, hr⟩ : ∃ r, r = run 4294967295 ((bs s).take k) := ⟨_, rfl⟩
    have hlt := run_lt (r := 4294967295) (by omega) ((bs s).take k)
    rw [← hr] at hlt ⊢
    by_cases hks : k < s.size
    · have hc := s[k].toNat_lt
      have hx := u32_xor_nat r s[k].toNat hlt (by omega)
      have hxl := xor_lt hlt (show s[k].toNat < 4294967296 by omega)
      have hfin : t4 (t4 (r ^^^ s[k].toNat)) = run 4294967295 ((bs s).take (k + 1)) := by rw [run_take_succ s k hks, ← hr]; rfl
      obtain ⟨x, hxx⟩ : ∃ x, x = r ^^^ s[k].toNat := ⟨_, rfl⟩
      rw [← hxx] at hx hxl hfin
      obtain ⟨y, hy⟩ : ∃ y, y = t4 x := ⟨_, rfl⟩
      obtain ⟨z, hz⟩ : ∃ z, z = t4 y := ⟨_, rfl⟩
      obtain ⟨q, hq, ha, hb⟩ := nibble x hxl
      have hyl : y < 4294967296 := by rw [hy]; exact t4_lt hxl
      obtain ⟨p, hp, ha2, hb2⟩ := nibble y hyl
      have hzl : z < 4294967296 := by rw [hz]; exact t4_lt hyl
      have hcq := HS.out q hq
      have hcp := HS.out p hp
      rw [← hy] at hb hfin
      rw [← hz] at hb2 hfin
      have HF := Lib.hid hfin
      clear hr hxx hy hz hfin
      go_wp2
      go_round
      case rel => exact ⟨k + 1, by omega, by go_num, by rw [HF.out]⟩
      case measure => simp [intOf]; omega
    · have : k = s.size := by omega
      subst this
      have hfull : r = run 4294967295 (bs s) := by rw [hr]; congr 1; exact List.take_of_length_le (Nat.le_refl _)
      have HF := Lib.hid hfull
      clear hr hfull
      go_wp2
      all_goals first
        | exact absurd ‹IntKind.u32.signed = true› (by decide)
        | (go_ret
           refine ⟨?_, rfl⟩
           rw [sum, ← HF.out, ← not_u32 r hlt]
           rfl)

/-- The table stands where it stood. -/
theorem Steps.of {w w' : World} {B : Nat} (h : Steps w) (hb : Below B w w') (hB : 0 < B) : Steps w' := fun k hk => by
  rw [hb.cell (p := ⟨0, k, none⟩) hB]; exact h k hk

end Go.Proofs.YtgbpofgmomglfaaDoor.Crc
