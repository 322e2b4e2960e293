/-
  Layer 18: the law's speaks.
-/
import Derived.Test.YtnmhgjoofgmcgaaRlInv
namespace Go.Proofs.Ytnmhgjoofgmcgaa.Rl
open Go.RowKit
open Fx (StrsAt)
set_option maxRecDepth 100000
set_option linter.unusedSimpArgs false
set_option linter.unusedVariables false
def na : ByteArray := ⟨#[97]⟩
def nc : ByteArray := ⟨#[99]⟩
def r1 : Rol := ⟨[⟨na, 1, 4096⟩], []⟩
theorem sp_enrol : enrolM ⟨[], []⟩ na 1 = .ok r1 := by rfl
theorem sp_open : openM r1 nc na = .error 13 := by rfl
theorem sp_find : findM r1 na = ⟨na, 1, 4096⟩ ∧ hasN r1.names na = true := by exact ⟨rfl, rfl⟩
theorem r1_sized : Sized r1 := (inv_enrol (N := 0) inv_nil sp_enrol).sized (by omega)
set_option maxHeartbeats 4000000 in
theorem speaks_any (W : World) : Calls Try.prog 7 #[] W fun e w' => e = .returned (.bool true) ∧ Below W.heap.size W w' := by
  have HEN := Lib.hid (enrol_any ⟨[], []⟩ na 1 ((inv_nil).sized (by omega)) (by decide) (fun _ => True) W _ (rl_zero _ W))
  rw [sp_enrol] at HEN
  go_enter Try.func7, Try.ntmps7
  go_wp2_with fail
  refine (HEN.out).mono ?_
  rintro e w1 ⟨v1, rfl, hr1, hb1⟩
  obtain ⟨A1, c1, A2, c2, rfl, _, _⟩ := hr1.form
  have e1 : (rolOf (.ok r1)).ms.length = 1 := rfl
  have e2 : (rolOf (.ok r1)).cs.length = 0 := rfl
  have e3 : ((codeOf (.ok r1) : Nat) : Int) = 0 := rfl
  rw [e1, e2] at hr1
  rw [e1, e2, e3]
  obtain ⟨V1, hV1⟩ : ∃ V1, V1 = w1.alloc (.cells #[.slice A1 1 c1, .slice A2 0 c2] 26) := ⟨_, rfl⟩
  have hbv : Below w1.heap.size w1 V1 := by rw [hV1]; exact (Below.refl _ _).alloc (Nat.le_refl _) _
  have hx : V1.heap[w1.heap.size]? = some (.cells #[.slice A1 1 c1, .slice A2 0 c2] 26 (0, 0)) := by rw [hV1]; exact heap_alloc_new _ _
  have hrv : RlAt (fun b => W.heap.size ≤ b) V1 r1 (.agg #[.slice A1 1 c1, .slice A2 0 c2]) := hr1.under hbv
  have HBV := Lib.hid (hb1.trans (hbv.mono hb1.size))
  have HRV := Lib.hid hrv
  have HX := Lib.hid hx
  have HV1 := Lib.hid hV1
  have x0 := cell_of_row _ _ 0 _ _ (0, 0) hx
  have x1 := cell_of_row _ _ 1 _ _ (0, 0) hx
  clear hr1 hb1 e1 e2 e3 hV1 hbv hx hrv
  go_upto_region 2 with fail
  rw [← HV1.out]
  have HOP := Lib.hid (open_any r1 nc na r1_sized (by decide) _ V1 _ HRV.out)
  rw [sp_open] at HOP
  go_wp2_with fail
  refine HOP.out.mono ?_
  rintro e w2 ⟨v2, rfl, hr2, hb2⟩
  obtain ⟨A3, c3, A4, c4, rfl, _, _⟩ := hr2.form
  have e1 : (rolOf (.error 13)).ms.length = 0 := rfl
  have e2 : (rolOf (.error 13)).cs.length = 0 := rfl
  have e3 : ((codeOf (.error 13) : Nat) : Int) = 13 := rfl
  rw [e1, e2, e3]
  obtain ⟨V2, hV2⟩ : ∃ V2, V2 = w2.alloc (.cells #[.slice A3 0 c3, .slice A4 0 c4] 26) := ⟨_, rfl⟩
  have hbv2 : Below w2.heap.size w2 V2 := by rw [hV2]; exact (Below.refl _ _).alloc (Nat.le_refl _) _
  have hbb : Below V1.heap.size V1 V2 := hb2.trans (hbv2.mono hb2.size)
  have HBV2 := Lib.hid (HBV.out.trans (hbb.mono HBV.out.size))
  have hx2 := (hbb.block _ (Gn.heap_lt HX.out)).trans HX.out
  have HRV2 := Lib.hid (HRV.out.under hbb)
  have HV2 := Lib.hid hV2
  clear hr2 hb2 e1 e2 e3 hV2 hbv2 hbb x0 x1
  have x0 := cell_of_row _ _ 0 _ _ (0, 0) hx2
  have x1 := cell_of_row _ _ 1 _ _ (0, 0) hx2
  clear hx2
  go_upto_region 3 with fail
  rw [← HV2.out]
  have HME := Lib.hid (Member_any r1 na _ V2 _ HRV2.out r1_sized.names (by decide))
  rw [sp_find.1, sp_find.2] at HME
  go_wp2_with fail
  refine HME.out.mono ?_
  rintro e w3 ⟨rfl, hb3⟩
  have HB3 := Lib.hid (HBV2.out.trans (hb3.mono HBV2.out.size))
  obtain ⟨V3, hV3⟩ : ∃ V3, V3 = w3.alloc (.cells #[.string na, .int .i64 1, .int .i64 4096] 49) := ⟨_, rfl⟩
  have hbv3 : Below w3.heap.size w3 V3 := by rw [hV3]; exact (Below.refl _ _).alloc (Nat.le_refl _) _
  have hx3 : V3.heap[w3.heap.size]? = some (.cells #[.string na, .int .i64 1, .int .i64 4096] 49 (0, 0)) := by rw [hV3]; exact heap_alloc_new _ _
  have m2 := cell_of_row _ _ 2 _ _ (0, 0) hx3
  have HBF := Lib.hid (HB3.out.trans (hbv3.mono HB3.out.size))
  have HV3 := Lib.hid hV3
  clear hb3 hV3 hbv3 hx3 x0 x1
  go_upto_region 4 with fail
  rw [← HV3.out]
  go_wp2_with fail
  go_ret
  exact ⟨rfl, HBF.out⟩
end Go.Proofs.Ytnmhgjoofgmcgaa.Rl
