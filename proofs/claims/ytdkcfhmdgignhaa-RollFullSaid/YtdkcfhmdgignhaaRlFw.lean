/-
  Layer 18: RollFull, walked.
-/
import Derived.Test.YtdkcfhmdgignhaaRlFu
import Derived.Test.YtdkcfhmdgignhaaRlGet
import Derived.Laws.BytesArg
namespace Go.Proofs.Ytdkcfhmdgignhaa.Rl
open Go.RowKit
open Fx (StrsAt)
open Oct (app eInt)
set_option maxRecDepth 100000
set_option linter.unusedSimpArgs false
set_option linter.unusedVariables false
theorem and15 (z : Int) : bits .and .i64 z 15 = z % 16 := by
  show IntKind.i64.wrap ((BitVec.ofInt 64 z &&& BitVec.ofInt 64 15).toNat : Int) = _
  have h3 : (BitVec.ofInt 64 15).toNat = 2 ^ 4 - 1 := by decide
  rw [BitVec.toNat_and, h3, Nat.and_two_pow_sub_one_eq_mod, BitVec.toNat_ofInt]
  rw [IntWalk.i64_in _ (by omega)]
  omega
theorem conv3 (x y z : Nat) (hx : x < 256) (hy : y < 256) (hz : z < 256) (X Y Z : Int) (eX : X = x) (eY : Y = y) (eZ : Z = z) (W : World) : (convert 39 9 (.slice (some ⟨W.heap.size, 0, none⟩) 3 3)).run Try.prog (W.alloc (.cells #[.int .u8 X, .int .u8 Y, .int .u8 Z] 5)) = .ok (.string ⟨#[UInt8.ofNat x, UInt8.ofNat y, UInt8.ofNat z]⟩) (W.alloc (.cells #[.int .u8 X, .int .u8 Y, .int .u8 Z] 5)) := by
  subst eX eY eZ
  have hu : ∀ k : Nat, k < 256 → (((UInt8.ofNat k).toNat : Nat) : Int) = (k : Int) := fun k hk => by simp; omega
  have := run_convert_bytes_back (P := Try.prog) (W.alloc (.cells #[.int .u8 (x : Int), .int .u8 (y : Int), .int .u8 (z : Int)] 5)) 39 9 5 ⟨W.heap.size, 0, none⟩ 3 [UInt8.ofNat x, UInt8.ofNat y, UInt8.ofNat z] Try.underlying39 Try.underlying5 Try.underlying9 (fun j hj => by
    refine Gn.row_new W [.int .u8 (x : Int), .int .u8 (y : Int), .int .u8 (z : Int)] _ _ rfl j _ ?_
    have hj : j < 3 := hj
    match j, hj with
    | 0, _ =>
      show some (Value.int .u8 (x : Int)) = some (Value.int .u8 (((UInt8.ofNat x).toNat : Nat) : Int))
      rw [hu x hx]
    | 1, _ =>
      show some (Value.int .u8 (y : Int)) = some (Value.int .u8 (((UInt8.ofNat y).toNat : Nat) : Int))
      rw [hu y hy]
    | 2, _ =>
      show some (Value.int .u8 (z : Int)) = some (Value.int .u8 (((UInt8.ofNat z).toNat : Nat) : Int))
      rw [hu z hz])
  exact this
/-- The law's roll in its box. -/
structure FpAt (W : World) (B : Nat) (w : World) (r : Rol) (vm vc : Value) : Prop where
  box : w.heap[B]? = some (.cells #[vm, vc] 26 (0, 0))
  rl : RlAt (fun b => B < b) w r (.agg #[vm, vc])
  bel : Below W.heap.size W w
  lo : W.heap.size ≤ B
theorem FpAt.under {W : World} {B : Nat} {w w' : World} {r : Rol} {vm vc : Value} (h : FpAt W B w r vm vc) (b : Below w.heap.size w w') : FpAt W B w' r vm vc :=
  ⟨(b.block _ (Gn.heap_lt h.box)).trans h.box, h.rl.under b, h.bel.trans (b.mono h.bel.size), h.lo⟩
theorem FpAt.form {W : World} {B : Nat} {w : World} {r : Rol} {vm vc : Value} (h : FpAt W B w r vm vc) : ∃ A1 c1 A2 c2, vm = .slice A1 r.ms.length c1 ∧ vc = .slice A2 r.cs.length c2 := by
  obtain ⟨A1, c1, A2, c2, e, _, _⟩ := h.rl.form
  injection e with e
  injection e with e
  injection e with e1 e2
  injection e2 with e2
  exact ⟨A1, c1, A2, c2, e1, e2⟩
/-- What a deed told, in a new box; and it put into the law's. -/
theorem FpAt.told {W : World} {B : Nat} {w w3 : World} {r r' : Rol} {vm vc x y : Value} (h : FpAt W B w r vm vc) (hr : RlAt (fun b => w.heap.size ≤ b) w3 r' (.agg #[x, y])) (hb : Below w.heap.size w w3) :
    FpAt W B (w3.alloc (.cells #[x, y] 26)) r vm vc ∧ (w3.alloc (.cells #[x, y] 26)).heap[w3.heap.size]? = some (.cells #[x, y] 26 (0, 0)) ∧ FpAt W B (((w3.alloc (.cells #[x, y] 26)).setCell ⟨B, 0, none⟩ x).setCell ⟨B, 1, none⟩ y) r' x y := by
  have b : Below w3.heap.size w3 (w3.alloc (.cells #[x, y] 26)) := (Below.refl _ _).alloc (Nat.le_refl _) _
  have h1 : FpAt W B (w3.alloc (.cells #[x, y] 26)) r vm vc := (h.under hb).under b
  have hlt := Gn.heap_lt h.box
  refine ⟨h1, heap_alloc_new _ _, Gn.heap_set (Gn.heap_set h1.box 0 _) 1 _, (hr.under b).keep (by simp [World.setCell]) fun q hq _ => ⟨by omega, fun j => Gn.cell_same ((Gn.set_keep _ _ _ (by show B ≠ q; omega)).trans (Gn.set_keep _ _ _ (by show B ≠ q; omega))) j⟩, (h1.bel.setCell h.lo _).setCell h.lo _, h.lo⟩
set_option maxHeartbeats 16000000 in
theorem full_any (N : Int) (W : World) :
    Calls Try.prog 4 #[.int .i64 N] W fun e w' => e = .returned (.bool true) ∧ Below W.heap.size W w' := by
  have HSP := Lib.hid (fun w => speaks_any w)
  obtain ⟨n, hn, hn1, hn2⟩ : ∃ n : Nat, 250 + bits .and .i64 N 15 = (n : Int) ∧ 250 ≤ n ∧ n ≤ 265 := ⟨(250 + bits .and .i64 N 15).toNat, by rw [and15]; omega, by rw [and15]; omega, by rw [and15]; omega⟩
  have hw0 : IntKind.i64.wrap (250 + bits .and .i64 N 15) = (n : Int) := by rw [hn]; exact IntWalk.i64_in _ (by omega)
  clear hn
  go_enter Try.func4, Try.ntmps4
  go_wp2_with fail
  refine (HSP.out W).mono ?_
  rintro e w1 ⟨rfl, hb1⟩
  obtain ⟨V, hV⟩ : ∃ V, V = w1.alloc (.cells #[.slice none 0 0, .slice none 0 0] 26) := ⟨_, rfl⟩
  have hbv : Below w1.heap.size w1 V := by rw [hV]; exact (Below.refl _ _).alloc (Nat.le_refl _) _
  have hkp : FpAt W w1.heap.size V ⟨[], []⟩ (.slice none 0 0) (.slice none 0 0) := ⟨by rw [hV]; exact heap_alloc_new _ _, rl_zero _ _, hb1.trans (hbv.mono hb1.size), hb1.size⟩
  obtain ⟨B, hB⟩ : ∃ B, B = w1.heap.size := ⟨_, rfl⟩
  have HKP := Lib.hid hkp
  rw [← hB] at HKP
  have HV := Lib.hid hV
  have HB := Lib.hid hB
  clear hb1 hV hbv hkp hB
  go_upto_region 5 with fail
  rw [← HV.out, ← HB.out]
  clear hw0
  go_wp2_with fail
  go_loopw [4] (fun x wr => ∃ (i : Nat) (r : Rol) (vm vc : Value), i ≤ n ∧ x = .int .i64 i ∧ Fu (min i 256) 0 r ∧ FpAt W B wr r vm vc) (fun x _ => n - (intOf x).toNat)
  case atStart => exact ⟨0, ⟨[], []⟩, _, _, Nat.zero_le _, rfl, fu_nil, HKP.out⟩
  case round =>
    obtain ⟨i, r, vm, vc, hin, rfl, hfu, hkp⟩ := hrel
    have HFU := Lib.hid hfu
    have HK := Lib.hid hkp
    clear hfu hkp
    by_cases hlt : i < n
    · have hlt2 : (i : Int) < (n : Int) := by omega
      obtain ⟨A1, c1, A2, c2, rfl, rfl⟩ := HK.out.form
      obtain ⟨n1, hn1'⟩ : ∃ n1, n1 = r.ms.length := ⟨_, rfl⟩
      obtain ⟨n2, hn2'⟩ : ∃ n2, n2 = r.cs.length := ⟨_, rfl⟩
      rw [← hn1', ← hn2'] at HK
      obtain ⟨a, ha⟩ : ∃ a, a = i / 26 % 26 := ⟨_, rfl⟩
      obtain ⟨b, hb⟩ : ∃ b, b = i % 26 := ⟨_, rfl⟩
      obtain ⟨d, hd⟩ : ∃ d, d = i / 26 := ⟨_, rfl⟩
      have ha26 : a < 26 := by omega
      have hb26 : b < 26 := by omega
      have hd1 : ((i : Int).tdiv 26) = (d : Int) := by rw [Int.tdiv_eq_ediv_of_nonneg (by omega)]; omega
      have hd2 : IntKind.i64.wrap (d : Int) = (d : Int) := IntWalk.i64_in _ (by omega)
      have hd3 : ((d : Int).tmod 26) = (a : Int) := by rw [Int.tmod_eq_emod_of_nonneg (by omega)]; omega
      have hd4 : ((i : Int).tmod 26) = (b : Int) := by rw [Int.tmod_eq_emod_of_nonneg (by omega)]; omega
      have hwa : IntKind.i64.wrap (97 + (a : Int)) = 97 + (a : Int) := IntWalk.i64_in _ (by omega)
      have hwb : IntKind.i64.wrap (97 + (b : Int)) = 97 + (b : Int) := IntWalk.i64_in _ (by omega)
      have hcv := conv3 (97 + a) (97 + b) 120 (by omega) (by omega) (by omega) (97 + (a : Int)) (97 + (b : Int)) 120 (by omega) (by omega) rfl wr
      rw [show (⟨#[UInt8.ofNat (97 + a), UInt8.ofNat (97 + b), UInt8.ofNat 120]⟩ : ByteArray) = nB i by rw [ha, hb]; rfl] at hcv
      obtain ⟨wd, hwd⟩ : ∃ wd, wd = wr.alloc (.cells #[.int .u8 (97 + (a : Int)), .int .u8 (97 + (b : Int)), .int .u8 120] 5) := ⟨_, rfl⟩
      have hbd : Below wr.heap.size wr wd := by rw [hwd]; exact (Below.refl _ _).alloc (Nat.le_refl _) _
      have HKD := Lib.hid (HK.out.under hbd)
      have HEN := Lib.hid (enrol_any r (nB i) 2 (HFU.out.sized (by omega) (by omega)) (show (3 : Nat) ≤ 9223372036854775807 by decide) _ wd _ HKD.out.rl)
      have HWD := Lib.hid hwd
      have HA := Lib.hid ha
      have HB9 := Lib.hid hb
      have HD := Lib.hid hd
      have hw1 : IntKind.i64.wrap ((i : Int) + 1) = ((i + 1 : Nat) : Int) := IntWalk.i64_in _ (by omega)
      obtain ⟨nm, hnm⟩ : ∃ nm, nm = nB i := ⟨_, rfl⟩
      rw [← hnm] at HEN hcv
      have HNM := Lib.hid hnm
      clear ha hb hd hwd hbd hn1' hn2' hnm
      go_upto_region 9 with fail
      rw [← HWD.out]
      clear hcv hwa hwb hd1 hd2 hd3 hd4
      have b0 := cell_of_row _ _ 0 _ _ (0, 0) HKD.out.box
      have b1 := cell_of_row _ _ 1 _ _ (0, 0) HKD.out.box
      by_cases h256 : i < 256
      · obtain ⟨r', he, hf⟩ := Fu.enrol (by have := HFU.out; rwa [Nat.min_eq_left (by omega)] at this) h256
        rw [HNM.out, he] at HEN
        have hge : ¬ (256 : Int) ≤ (i : Int) := by omega
        have HFN := Lib.hid (show Fu (min (i + 1) 256) 0 r' by rw [Nat.min_eq_left (by omega)]; exact hf)
        rw [← HNM.out] at HEN
        clear he hf
        go_wp2_with fail
        refine HEN.out.mono ?_
        rintro e w3 ⟨v3, rfl, hr3, hb3⟩
        obtain ⟨A3, c3, A4, c4, rfl, _, _⟩ := hr3.form
        obtain ⟨n3, hn3⟩ : ∃ n3, n3 = (rolOf (.ok r')).ms.length := ⟨_, rfl⟩
        obtain ⟨n4, hn4⟩ : ∃ n4, n4 = (rolOf (.ok r')).cs.length := ⟨_, rfl⟩
        rw [← hn3, ← hn4] at hr3 ⊢
        have e3 : ((codeOf (.ok r') : Nat) : Int) = 0 := rfl
        rw [e3]
        obtain ⟨t1, t2, t3⟩ := HKD.out.told hr3 hb3
        obtain ⟨V7, hV7⟩ : ∃ V7, V7 = w3.alloc (.cells #[.slice A3 n3 c3, .slice A4 n4 c4] 26) := ⟨_, rfl⟩
        rw [← hV7] at t1 t2 t3
        have HT3 := Lib.hid t3
        have q0 := cell_of_row _ _ 0 _ _ (0, 0) t2
        have q1 := cell_of_row _ _ 1 _ _ (0, 0) t2
        have g0 := cell_of_row _ _ 0 _ _ (0, 0) t1.box
        have g1 := cell_of_row _ _ 1 _ _ (0, 0) t1.box
        have f0 := Gn.frozen_row t1.box 0
        have f1 := Gn.frozen_row t1.box 1
        have HV7 := Lib.hid hV7
        clear hr3 hb3 hn3 hn4 e3 t1 t2 t3 hV7 b0 b1
        go_upto_region 10 with fail
        rw [← HV7.out]
        go_wp2_with fail
        go_roundw
        case rel => exact ⟨i + 1, r', _, _, by omega, by go_num, HFN.out, HT3.out⟩
        case measure => simp [intOf]; omega
      · have hf256 : Fu 256 0 r := by have := HFU.out; rwa [Nat.min_eq_right (by omega)] at this
        have he := hf256.enough (show 256 ≤ i by omega) (by omega)
        rw [HNM.out, he] at HEN
        have hge : (256 : Int) ≤ (i : Int) := by omega
        have HFN := Lib.hid (show Fu (min (i + 1) 256) 0 r by rw [Nat.min_eq_right (by omega)]; exact hf256)
        rw [← HNM.out] at HEN
        clear he hf256
        go_wp2_with fail
        refine HEN.out.mono ?_
        rintro e w3 ⟨v3, rfl, hr3, hb3⟩
        obtain ⟨A3, c3, A4, c4, rfl, _, _⟩ := hr3.form
        have e1 : (rolOf (.error 12)).ms.length = 0 := rfl
        have e2 : (rolOf (.error 12)).cs.length = 0 := rfl
        have e3 : ((codeOf (.error 12) : Nat) : Int) = 12 := rfl
        rw [e1, e2] at hr3
        rw [e1, e2, e3]
        obtain ⟨t1, t2, t3⟩ := HKD.out.told hr3 hb3
        obtain ⟨V7, hV7⟩ : ∃ V7, V7 = w3.alloc (.cells #[.slice A3 0 c3, .slice A4 0 c4] 26) := ⟨_, rfl⟩
        rw [← hV7] at t1
        have HT1 := Lib.hid t1
        have HV7 := Lib.hid hV7
        clear hr3 hb3 e1 e2 e3 t1 t2 t3 hV7 b0 b1
        go_upto_region 10 with fail
        rw [← HV7.out]
        go_wp2_with fail
        go_roundw
        case rel => exact ⟨i + 1, r, _, _, by omega, by go_num, HFN.out, HT1.out⟩
        case measure => simp [intOf]; omega
    · have hlt2 : ¬ (i : Int) < (n : Int) := by omega
      have hie : i = n := by omega
      subst hie
      obtain ⟨mn, hmn⟩ : ∃ mn, mn = min i 256 := ⟨_, rfl⟩
      rw [← hmn] at HFU
      have hmn0 : 0 < mn := by omega
      have hmn2 : mn ≤ 256 := by omega
      have HMN := Lib.hid hmn
      clear hmn
      go_wp2_with fail
      go_loopw [8] (fun x wr => ∃ (j : Nat) (r : Rol) (vm vc : Value), j ≤ 34 ∧ x = .int .i64 j ∧ Fu mn (min j 32) r ∧ FpAt W B wr r vm vc) (fun x _ => 34 - (intOf x).toNat)
      case atStart => exact ⟨0, r, vm, vc, by omega, rfl, HFU.out, HK.out⟩
      case round =>
        obtain ⟨j, r, vm, vc, hj, rfl, hfu, hkp⟩ := hrel
        have HFU := Lib.hid hfu
        have HK := Lib.hid hkp
        clear hfu hkp
        by_cases hlt : j < 34
        · have hjt2 : (j : Int) < 34 := by omega
          obtain ⟨A1, c1, A2, c2, rfl, rfl⟩ := HK.out.form
          obtain ⟨n1, hn1'⟩ : ∃ n1, n1 = r.ms.length := ⟨_, rfl⟩
          obtain ⟨n2, hn2'⟩ : ∃ n2, n2 = r.cs.length := ⟨_, rfl⟩
          rw [← hn1', ← hn2'] at HK
          obtain ⟨a, ha⟩ : ∃ a, a = j / 26 := ⟨_, rfl⟩
          obtain ⟨b, hb⟩ : ∃ b, b = j % 26 := ⟨_, rfl⟩
          have ha26 : a < 2 := by omega
          have hb26 : b < 26 := by omega
          have hd1 : ((j : Int).tdiv 26) = (a : Int) := by rw [Int.tdiv_eq_ediv_of_nonneg (by omega)]; omega
          have hd2 : IntKind.i64.wrap (a : Int) = (a : Int) := IntWalk.i64_in _ (by omega)
          have hd4 : ((j : Int).tmod 26) = (b : Int) := by rw [Int.tmod_eq_emod_of_nonneg (by omega)]; omega
          have hwa : IntKind.i64.wrap (97 + (a : Int)) = 97 + (a : Int) := IntWalk.i64_in _ (by omega)
          have hwb : IntKind.i64.wrap (97 + (b : Int)) = 97 + (b : Int) := IntWalk.i64_in _ (by omega)
          have hcv := conv3 99 (97 + a) (97 + b) (by omega) (by omega) (by omega) 99 (97 + (a : Int)) (97 + (b : Int)) rfl (by omega) (by omega) wr
          rw [show (⟨#[UInt8.ofNat 99, UInt8.ofNat (97 + a), UInt8.ofNat (97 + b)]⟩ : ByteArray) = kB j by rw [ha, hb]; rfl] at hcv
          obtain ⟨wd, hwd⟩ : ∃ wd, wd = wr.alloc (.cells #[.int .u8 99, .int .u8 (97 + (a : Int)), .int .u8 (97 + (b : Int))] 5) := ⟨_, rfl⟩
          have hbd : Below wr.heap.size wr wd := by rw [hwd]; exact (Below.refl _ _).alloc (Nat.le_refl _) _
          have HKD := Lib.hid (HK.out.under hbd)
          have HEN := Lib.hid (open_any r (kB j) (nB 0) (HFU.out.sized (by omega) (by omega)) (show (3 : Nat) ≤ 9223372036854775807 by decide) _ wd _ HKD.out.rl)
          have HWD := Lib.hid hwd
          have hw1 : IntKind.i64.wrap ((j : Int) + 1) = ((j + 1 : Nat) : Int) := IntWalk.i64_in _ (by omega)
          obtain ⟨nm, hnm⟩ : ∃ nm, nm = kB j := ⟨_, rfl⟩
          rw [← hnm] at HEN hcv
          have HNM := Lib.hid hnm
          have b0 := cell_of_row _ _ 0 _ _ (0, 0) HK.out.box
          have b1 := cell_of_row _ _ 1 _ _ (0, 0) HK.out.box
          clear ha hb hwd hbd hn1' hn2' hnm
          go_upto_region 19 with fail
          by_cases h32 : j < 32
          · obtain ⟨r', he, hf⟩ := Fu.open_ (by have := HFU.out; rwa [Nat.min_eq_left (by omega)] at this) hmn0 h32
            rw [HNM.out, he] at HEN
            have hge : ¬ (32 : Int) ≤ (j : Int) := by omega
            have HFN := Lib.hid (show Fu mn (min (j + 1) 32) r' by rw [Nat.min_eq_left (by omega)]; exact hf)
            rw [← HNM.out] at HEN
            clear he hf
            go_wp2_with fail
            rw [← HWD.out]
            refine HEN.out.mono ?_
            rintro e w3 ⟨v3, rfl, hr3, hb3⟩
            obtain ⟨A3, c3, A4, c4, rfl, _, _⟩ := hr3.form
            obtain ⟨n3, hn3⟩ : ∃ n3, n3 = (rolOf (.ok r')).ms.length := ⟨_, rfl⟩
            obtain ⟨n4, hn4⟩ : ∃ n4, n4 = (rolOf (.ok r')).cs.length := ⟨_, rfl⟩
            rw [← hn3, ← hn4] at hr3 ⊢
            have e3 : ((codeOf (.ok r') : Nat) : Int) = 0 := rfl
            rw [e3]
            obtain ⟨t1, t2, t3⟩ := HKD.out.told hr3 hb3
            obtain ⟨V7, hV7⟩ : ∃ V7, V7 = w3.alloc (.cells #[.slice A3 n3 c3, .slice A4 n4 c4] 26) := ⟨_, rfl⟩
            rw [← hV7] at t1 t2 t3
            have HT3 := Lib.hid t3
            have q0 := cell_of_row _ _ 0 _ _ (0, 0) t2
            have q1 := cell_of_row _ _ 1 _ _ (0, 0) t2
            have g0 := cell_of_row _ _ 0 _ _ (0, 0) t1.box
            have g1 := cell_of_row _ _ 1 _ _ (0, 0) t1.box
            have f0 := Gn.frozen_row t1.box 0
            have f1 := Gn.frozen_row t1.box 1
            have HV7 := Lib.hid hV7
            clear hr3 hb3 hn3 hn4 e3 t1 t2 t3 hV7 b0 b1
            go_upto_region 20 with fail
            rw [← HV7.out]
            go_wp2_with fail
            go_roundw
            case rel => exact ⟨j + 1, r', _, _, by omega, by go_num, HFN.out, HT3.out⟩
            case measure => simp [intOf]; omega
          · have hf32 : Fu mn 32 r := by have := HFU.out; rwa [Nat.min_eq_right (by omega)] at this
            have he := hf32.enough_cls hmn0 (show 32 ≤ j by omega) hlt
            rw [HNM.out, he] at HEN
            have hge : (32 : Int) ≤ (j : Int) := by omega
            have HFN := Lib.hid (show Fu mn (min (j + 1) 32) r by rw [Nat.min_eq_right (by omega)]; exact hf32)
            rw [← HNM.out] at HEN
            clear he hf32
            go_wp2_with fail
            rw [← HWD.out]
            refine HEN.out.mono ?_
            rintro e w3 ⟨v3, rfl, hr3, hb3⟩
            obtain ⟨A3, c3, A4, c4, rfl, _, _⟩ := hr3.form
            have e1 : (rolOf (.error 12)).ms.length = 0 := rfl
            have e2 : (rolOf (.error 12)).cs.length = 0 := rfl
            have e3 : ((codeOf (.error 12) : Nat) : Int) = 12 := rfl
            rw [e1, e2] at hr3
            rw [e1, e2, e3]
            obtain ⟨t1, t2, t3⟩ := HKD.out.told hr3 hb3
            obtain ⟨V7, hV7⟩ : ∃ V7, V7 = w3.alloc (.cells #[.slice A3 0 c3, .slice A4 0 c4] 26) := ⟨_, rfl⟩
            rw [← hV7] at t1
            have HT1 := Lib.hid t1
            have HV7 := Lib.hid hV7
            clear hr3 hb3 e1 e2 e3 t1 t2 t3 hV7 b0 b1
            go_upto_region 20 with fail
            rw [← HV7.out]
            go_wp2_with fail
            go_roundw
            case rel => exact ⟨j + 1, r, _, _, by omega, by go_num, HFN.out, HT1.out⟩
            case measure => simp [intOf]; omega
        · have hjt2 : ¬ (j : Int) < 34 := by omega
          have hj34 : j = 34 := by omega
          have hf32 : Fu mn 32 r := by have := HFU.out; rwa [Nat.min_eq_right (by omega)] at this
          obtain ⟨A1, c1, A2, c2, rfl, rfl⟩ := HK.out.form
          have hl1 := hf32.lm
          have hl2 := hf32.lc
          rw [hl1, hl2] at HK
          have HPU := Lib.hid (put_any r _ wr _ HK.out.rl (by omega) (by omega))
          obtain ⟨bsv, hbs⟩ : ∃ bsv, bsv = (⟨((putR r).getD []).toArray⟩ : ByteArray) := ⟨_, rfl⟩
          rw [← hbs] at HPU
          have hgt : getR (Oct.bs bsv) = .ok r := by rw [hbs]; exact hf32.back hmn0 hmn2
          obtain ⟨e0, he0⟩ := hf32.put hmn2
          have hsz : bsv.size ≤ 9223372036854775807 := by
            have h1 : Oct.len (putR r) ≤ 200000000000 := by
              have h2 := Oct.len_app (app (eInt r.ms.length) (pMems r.ms r.ms.length)) (app (eInt r.cs.length) (pClss r.cs r.cs.length))
              have h3 := Oct.len_app (eInt r.ms.length) (pMems r.ms r.ms.length)
              have h4 := Oct.len_app (eInt r.cs.length) (pClss r.cs r.cs.length)
              have h5 := Oct.len_eInt (r.ms.length : Int)
              have h6 := Oct.len_eInt (r.cs.length : Int)
              have h7 := len_pMems r.ms r.ms.length
              have h8 := len_pClss r.cs r.cs.length
              unfold putR
              omega
            rw [hbs, he0]
            rw [he0] at h1
            show e0.toArray.size ≤ _
            rw [List.size_toArray]
            have : Oct.len (some e0) = e0.length := rfl
            omega
          have HGT := Lib.hid (fun w => get_any bsv hsz w)
          rw [hgt] at HGT
          have HL1 := Lib.hid hl1
          have HL2 := Lib.hid hl2
          have b0 := cell_of_row _ _ 0 _ _ (0, 0) HK.out.box
          have b1 := cell_of_row _ _ 1 _ _ (0, 0) HK.out.box
          have hmin : min (i : Int) 256 = (mn : Int) := by have := HMN.out; omega
          clear hbs hgt he0 hsz hl1 hl2 hf32
          go_wp2_with fail
          refine HPU.out.mono ?_
          rintro e w2 ⟨rfl, hb2⟩
          have HB2 := Lib.hid (HK.out.bel.trans (hb2.mono HK.out.bel.size))
          clear hb2 b0 b1
          go_wp2_with fail
          refine (HGT.out w2).mono ?_
          rintro e w3 ⟨v3, rfl, hr3, hb3⟩
          obtain ⟨A3, c3, A4, c4, rfl, _, _⟩ := hr3.form
          have e1 : (rolOf (.ok r)).ms.length = mn := HL1.out
          have e2 : (rolOf (.ok r)).cs.length = 32 := HL2.out
          have e3 : ((codeOf (.ok r) : Nat) : Int) = 0 := rfl
          rw [e1, e2, e3]
          obtain ⟨V7, hV7⟩ : ∃ V7, V7 = w3.alloc (.cells #[.slice A3 mn c3, .slice A4 32 c4] 26) := ⟨_, rfl⟩
          have hbv : Below w3.heap.size w3 V7 := by rw [hV7]; exact (Below.refl _ _).alloc (Nat.le_refl _) _
          have hx : V7.heap[w3.heap.size]? = some (.cells #[.slice A3 mn c3, .slice A4 32 c4] 26 (0, 0)) := by rw [hV7]; exact heap_alloc_new _ _
          have x0 := cell_of_row _ _ 0 _ _ (0, 0) hx
          have x1 := cell_of_row _ _ 1 _ _ (0, 0) hx
          have HBF := Lib.hid (HB2.out.trans ((hb3.trans (hbv.mono hb3.size)).mono HB2.out.size))
          have HV7 := Lib.hid hV7
          clear hr3 hb3 e1 e2 e3 hV7 hbv hx
          go_upto_region 27 with fail
          rw [← HV7.out]
          go_wp2_with fail
          go_ret
          exact ⟨by simp, HBF.out⟩
end Go.Proofs.Ytdkcfhmdgignhaa.Rl
