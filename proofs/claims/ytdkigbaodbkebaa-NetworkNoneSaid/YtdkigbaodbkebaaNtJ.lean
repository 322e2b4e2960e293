/-
  Layer 27: the walk of NetworkNone.
-/
import Derived.Test.YtdkigbaodbkebaaNtI
namespace Go.Proofs.Ytdkigbaodbkebaa.Nt
open Go.RowKit
set_option maxRecDepth 100000
set_option linter.unusedSimpArgs false
set_option linter.unusedVariables false
theorem net_build (w : World) : (Instr.build 26 #[]).run Try.prog w = .ok (.agg #[.slice none 0 0]) w := by kernel_rfl
theorem look_no (i : Int) (w : World) : Calls Try.prog 12 #[.pointer none, .int .i64 i] w (fun e w' => e = .returned (.tuple #[.agg #[.int .i64 0, .int .i64 0, .string ⟨#[]⟩, .bool false], .bool false]) ∧ Below w.heap.size w w') := look_none _ i w fun w' _ => count_nil w'
theorem take_no (i : Int) (w : World) : Calls Try.prog 8 #[.pointer none, .int .i64 i] w (fun e w' => e = .returned (.tuple #[.agg #[.int .i64 0, .int .i64 0, .string ⟨#[]⟩, .bool false], .bool false]) ∧ Below w.heap.size w w') := take_none _ i w fun w' _ => count_nil w'
theorem double_no (i : Int) (w : World) : Calls Try.prog 9 #[.pointer none, .int .i64 i] w (fun e w' => e = .returned (.bool false) ∧ Below w.heap.size w w') := double_none _ i w fun w' _ => count_nil w'
theorem spoil_no (i a : Int) (v : Nat) (w : World) : Calls Try.prog 11 #[.pointer none, .int .i64 i, .int .i64 a, .int .u32 v] w (fun e w' => e = .returned (.bool false) ∧ Below w.heap.size w w') := spoil_none _ i a v w (count_nil w)
section
variable {base b : Nat} {w : World}
theorem look_e (h : NetAt base b [] w) (i : Int) : Calls Try.prog 12 #[.pointer (some ⟨b, 0, none⟩), .int .i64 i] w (fun e w' => e = .returned (.tuple #[.agg #[.int .i64 0, .int .i64 0, .string ⟨#[]⟩, .bool false], .bool false]) ∧ NetAt base b [] w' ∧ Below w.heap.size w w') :=
  (look_self h i (by simp)).mono fun e w' ⟨h1, h2⟩ => ⟨h1, h.below h2, h2⟩
theorem take_e (h : NetAt base b [] w) (i : Int) (hb : base ≤ w.heap.size) : Calls Try.prog 8 #[.pointer (some ⟨b, 0, none⟩), .int .i64 i] w (fun e w' => e = .returned (.tuple #[.agg #[.int .i64 0, .int .i64 0, .string ⟨#[]⟩, .bool false], .bool false]) ∧ NetAt base b [] w' ∧ NSep base b w w') :=
  (take_any h i (by simp) hb).mono fun e w' ⟨h1, h2, h3, _⟩ => ⟨h1, by rw [remF_nil] at h2; exact h2, h3⟩
theorem double_e (h : NetAt base b [] w) (i : Int) (hb : base ≤ w.heap.size) : Calls Try.prog 9 #[.pointer (some ⟨b, 0, none⟩), .int .i64 i] w (fun e w' => e = .returned (.bool false) ∧ NetAt base b [] w' ∧ NSep base b w w') :=
  (double_any h i (by simp) hb).mono fun e w' ⟨h1, h2, h3⟩ => ⟨h1, by rw [if_neg (by simp)] at h2; exact h2, h3⟩
theorem spoil_e (h : NetAt base b [] w) (i a : Int) (v : Nat) (hb : base ≤ w.heap.size) : Calls Try.prog 11 #[.pointer (some ⟨b, 0, none⟩), .int .i64 i, .int .i64 a, .int .u32 v] w (fun e w' => e = .returned (.bool false) ∧ NetAt base b [] w' ∧ NSep base b w w') :=
  (spoil_any h i a v (by simp) hb (by simp)).mono fun e w' ⟨h1, h2, h3⟩ => ⟨h1, h2, h3⟩
end
set_option maxHeartbeats 16000000 in
theorem none_walk (i a : Int) (v : Nat) (w : World) : Calls Try.prog 4 #[.int .i64 i, .int .i64 a, .int .u32 v] w fun e w' => e = .returned (.bool true) ∧ Below w.heap.size w w' := by
  go_enter Try.func4, Try.ntmps4
  go_wp2_with fail
  refine (speaks_any w).mono ?_
  rintro e w1 ⟨rfl, b1⟩
  have hnt := not_run true w1
  have hbd := net_build w1
  have HB1 := Lib.hid b1
  obtain ⟨V, hV⟩ : ∃ V, V = w1.alloc (.cells #[.slice none 0 0] 26) := ⟨_, rfl⟩
  obtain ⟨b, hb⟩ : ∃ x, x = w1.heap.size := ⟨_, rfl⟩
  have h0 := net_new w1
  rw [← hV, ← hb] at h0
  have hs0 : w.heap.size ≤ b := by rw [hb]; exact b1.size
  have HVS := Lib.hid (show b ≤ V.heap.size by rw [hV, hb]; simp)
  have HL0 := Lib.hid (show Below w.heap.size w V by rw [hV]; exact b1.alloc b1.size _)
  have H0 := Lib.hid h0
  have HV := Lib.hid hV
  have HB := Lib.hid hb
  have HS0 := Lib.hid hs0
  clear hV hb h0 hs0 b1
  go_upto_region 5 with fail
  rw [← HV.out, ← HB.out]
  clear hnt hbd
  go_wp2_with fail
  refine (look_no i V).mono ?_
  rintro e w12 ⟨rfl, b2⟩
  have b3 := b2.alloc b2.size (.cells #[.int .i64 0, .int .i64 0, .string ⟨#[]⟩, .bool false] 35)
  obtain ⟨V1, hV⟩ : ∃ x, x = w12.alloc (.cells #[.int .i64 0, .int .i64 0, .string ⟨#[]⟩, .bool false] 35) := ⟨_, rfl⟩
  rw [← hV] at b3
  have H1 := Lib.hid (H0.out.below b3)
  have HL1 := Lib.hid (HL0.out.trans (b3.mono HL0.out.size))
  have HVS := Lib.hid (Nat.le_trans HVS.out b3.size)
  have HV1 := Lib.hid hV
  clear hV b3 b2
  go_upto_region 6 with fail
  rw [← HV1.out]
  go_wp2_with fail
  refine (take_no i V1).mono ?_
  rintro e w22 ⟨rfl, b2⟩
  have b3 := b2.alloc b2.size (.cells #[.int .i64 0, .int .i64 0, .string ⟨#[]⟩, .bool false] 35)
  obtain ⟨V2, hV⟩ : ∃ x, x = w22.alloc (.cells #[.int .i64 0, .int .i64 0, .string ⟨#[]⟩, .bool false] 35) := ⟨_, rfl⟩
  rw [← hV] at b3
  have H2 := Lib.hid (H1.out.below b3)
  have HL2 := Lib.hid (HL1.out.trans (b3.mono HL1.out.size))
  have HVS := Lib.hid (Nat.le_trans HVS.out b3.size)
  have HV2 := Lib.hid hV
  clear hV b3 b2
  go_upto_region 7 with fail
  rw [← HV2.out]
  go_wp2_with fail
  refine (look_e H2.out i).mono ?_
  rintro e w32 ⟨rfl, h2, b2⟩
  have b3 := b2.alloc b2.size (.cells #[.int .i64 0, .int .i64 0, .string ⟨#[]⟩, .bool false] 35)
  obtain ⟨V3, hV⟩ : ∃ x, x = w32.alloc (.cells #[.int .i64 0, .int .i64 0, .string ⟨#[]⟩, .bool false] 35) := ⟨_, rfl⟩
  rw [← hV] at b3
  have H3 := Lib.hid (H2.out.below b3)
  have HL3 := Lib.hid (HL2.out.trans (b3.mono HL2.out.size))
  have HVS := Lib.hid (Nat.le_trans HVS.out b3.size)
  clear h2
  have HV3 := Lib.hid hV
  clear hV b3 b2
  go_upto_region 8 with fail
  rw [← HV3.out]
  go_wp2_with fail
  refine (take_e H3.out i HVS.out).mono ?_
  rintro e w42 ⟨rfl, h2, s2⟩
  have b3 := (Below.refl w42.heap.size w42).alloc (Nat.le_refl _) (.cells #[.int .i64 0, .int .i64 0, .string ⟨#[]⟩, .bool false] 35)
  obtain ⟨V4, hV⟩ : ∃ x, x = w42.alloc (.cells #[.int .i64 0, .int .i64 0, .string ⟨#[]⟩, .bool false] 35) := ⟨_, rfl⟩
  rw [← hV] at b3
  have H4 := Lib.hid (h2.below b3)
  have HL4 := Lib.hid ((HL3.out.trans (s2.below.mono HS0.out)).trans (b3.mono (Nat.le_trans HL3.out.size s2.size)))
  have HVS := Lib.hid (Nat.le_trans HVS.out (Nat.le_trans s2.size b3.size))
  clear h2 s2
  have HV4 := Lib.hid hV
  clear hV b3
  go_upto_region 9 with fail
  rw [← HV4.out]
  have hnt := not_run false V4
  go_wp2_with fail
  refine (count_nil V4).mono ?_
  rintro e w9 ⟨rfl, rfl⟩
  have hnt := not_run false V4
  go_wp2_with fail
  refine (send_nil i a ⟨#[]⟩ V4).mono ?_
  rintro e V5 ⟨rfl, b2⟩
  have H5 := Lib.hid (H4.out.below b2)
  have HL5 := Lib.hid (HL4.out.trans (b2.mono HL4.out.size))
  have HVS := Lib.hid (Nat.le_trans HVS.out b2.size)
  have hnt := not_run false V5
  clear b2
  go_wp2_with fail
  refine (double_no i V5).mono ?_
  rintro e V6 ⟨rfl, b2⟩
  have H6 := Lib.hid (H5.out.below b2)
  have HL6 := Lib.hid (HL5.out.trans (b2.mono HL5.out.size))
  have HVS := Lib.hid (Nat.le_trans HVS.out b2.size)
  have hnt := not_run false V6
  clear b2
  go_wp2_with fail
  refine (spoil_no i a v V6).mono ?_
  rintro e V7 ⟨rfl, b2⟩
  have H7 := Lib.hid (H6.out.below b2)
  have HL7 := Lib.hid (HL6.out.trans (b2.mono HL6.out.size))
  have HVS := Lib.hid (Nat.le_trans HVS.out b2.size)
  have hnt := not_run false V7
  clear b2
  go_wp2_with fail
  refine (double_e H7.out i HVS.out).mono ?_
  rintro e V8 ⟨rfl, h2, s2⟩
  have H8 := Lib.hid h2
  have HL8 := Lib.hid (HL7.out.trans (s2.below.mono HS0.out))
  have HVS := Lib.hid (Nat.le_trans HVS.out s2.size)
  have hnt := not_run false V8
  clear h2 s2
  go_wp2_with fail
  refine (spoil_e H8.out i a v HVS.out).mono ?_
  rintro e V9 ⟨rfl, h2, s2⟩
  have H9 := Lib.hid h2
  have HL9 := Lib.hid (HL8.out.trans (s2.below.mono HS0.out))
  have HVS := Lib.hid (Nat.le_trans HVS.out s2.size)
  have hnt := not_run false V9
  clear h2 s2
  go_wp2_with fail
  refine (count_self H9.out).mono ?_
  rintro e w9 ⟨rfl, rfl⟩
  rw [show ((([] : List Fr).length : Nat) : Int) = 0 from rfl]
  go_wp2_with fail
  go_ret
  exact ⟨rfl, HL9.out⟩
theorem u32_nat {n : Int} (h : (Lit.int .u32 n).wf = true) : ∃ m : Nat, n = (m : Int) := by
  refine ⟨n.toNat, ?_⟩
  simp [Lit.wf, IntKind.min, IntKind.max, IntKind.signed, IntKind.bits] at h
  omega
theorem none_any (i a v : Int) (w : World) (_ : (Lit.int .i64 i).wf = true) (_ : (Lit.int .i64 a).wf = true) (w2 : (Lit.int .u32 v).wf = true) : Calls Try.prog 4 #[.int .i64 i, .int .i64 a, .int .u32 v] w fun e w' => e = .returned (.bool true) ∧ Below w.heap.size w w' := by
  obtain ⟨k, rfl⟩ := u32_nat w2
  exact none_walk i a k w
end Go.Proofs.Ytdkigbaodbkebaa.Nt
