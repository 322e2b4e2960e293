/-
  Layer 27: the document's place, and its Turned.
-/
import Derived.Test.YtdkigbaodbkebaaNtI
namespace Go.Proofs.Ytdkigbaodbkebaa.Nt
open Go.RowKit
set_option maxRecDepth 100000
set_option linter.unusedSimpArgs false
set_option linter.unusedVariables false
theorem rplace_any (i : Int) (n : Nat) (hn : 0 < n) (hn2 : n ≤ 4611686018427387904) (w : World) : Calls Try.prog 7 #[.int .i64 i, .int .i64 n] w (IsN (plN i n) w) := by
  obtain ⟨q, hq⟩ : ∃ q, i.tmod n = q := ⟨_, rfl⟩
  have h1 := plN_of i hn
  have h2 := tmod_range i hn
  rw [hq] at h1 h2
  obtain ⟨p, hp⟩ : ∃ p, p = plN i n := ⟨_, rfl⟩
  rw [← hp] at h1 ⊢
  obtain ⟨h2, h3⟩ := h2
  have hn0 : ¬ (n : Int) = 0 := by omega
  have HP := Lib.hid hp
  clear hp
  by_cases h0 : q < 0
  · rw [if_pos h0] at h1
    go_enter Try.func7, Try.ntmps7
    go_wp2
    go_ret
    exact ⟨by rw [← h1]; rfl, rfl⟩
  · rw [if_neg h0] at h1
    go_enter Try.func7, Try.ntmps7
    go_wp2
    go_ret
    exact ⟨by rw [← h1]; rfl, rfl⟩
/-- A string of one byte. -/
def ob (x : Nat) : ByteArray := ⟨[UInt8.ofNat x].toArray⟩
theorem one_byte (x : Nat) (y : Int) (hy : y = ((x % 256 : Nat) : Int)) (w : World) :
    (convert 50 9 (.slice (some ⟨w.heap.size, 0, none⟩) 1 1)).run Try.prog (w.alloc (.cells #[.int .u8 y] 5)) = .ok (.string (ob x)) (w.alloc (.cells #[.int .u8 y] 5)) := by
  subst hy
  exact run_convert_bytes_back (P := Try.prog) (w.alloc (.cells #[.int .u8 ((x % 256 : Nat) : Int)] 5)) 50 9 5 ⟨w.heap.size, 0, none⟩ 1 [UInt8.ofNat x] Try.underlying50 Try.underlying5 Try.underlying9 (fun j hj => by
    have h0 : j = 0 := by simp at hj; omega
    subst h0
    have e : (⟨w.heap.size, 0, none⟩ : Addr).add 0 = ⟨w.heap.size, 0, none⟩ := rfl
    rw [e, cell_of_row _ _ _ _ _ _ (heap_alloc_new w _)]
    simp)

theorem cat_ob (l : List UInt8) (x : Nat) : (⟨l.toArray⟩ : ByteArray) ++ ob x = ⟨(l ++ [UInt8.ofNat x]).toArray⟩ := by
  apply ByteArray.ext
  simp [ob]
theorem ob_size (x : Nat) : (ob x).size = 1 := rfl
theorem take_succ' (T : List UInt8) (k : Nat) (c : UInt8) (h : T[k]? = some c) : T.take (k + 1) = T.take k ++ [c] := by
  rw [List.take_add_one, h]; rfl
theorem rf_build (x y : Int) (t : ByteArray) (w : World) : (Instr.build 30 #[(0, .int .i64 x), (1, .int .i64 y), (2, .string t), (3, .bool true)]).run Try.prog w = .ok (.agg #[.int .i64 x, .int .i64 y, .string t, .bool true]) w := by kernel_rfl
set_option maxHeartbeats 16000000 in
theorem rturned_any (f : Fr) (a : Int) (v : Nat) (w : World) (hsz : f.bytes.size ≤ 2000000) :
    Calls Try.prog 10 #[AGF f, .int .i64 a, .int .u32 v] w fun e w' => e = .returned (.tuple #[AGF (spF f a v).1, .bool (spF f a v).2]) ∧ Below w.heap.size w w' := by
  obtain ⟨f0, f1, f2, f3⟩ := f
  simp only at hsz
  show Calls Try.prog 10 #[.agg #[.int .i64 f0, .int .i64 f1, .string f2, .bool f3], .int .i64 a, .int .u32 v] w _
  obtain ⟨W1, hW1⟩ : ∃ x, x = w.alloc (.cells #[.int .i64 f0, .int .i64 f1, .string f2, .bool f3] 30) := ⟨_, rfl⟩
  obtain ⟨V, hV⟩ : ∃ x, x = W1.alloc (.cells #[.int .i64 0, .int .i64 0, .string ⟨#[]⟩, .bool false] 30) := ⟨_, rfl⟩
  obtain ⟨pb, hpb⟩ : ∃ x, x = w.heap.size := ⟨_, rfl⟩
  obtain ⟨rb, hrb⟩ : ∃ x, x = W1.heap.size := ⟨_, rfl⟩
  have hb1 : Below w.heap.size w W1 := by rw [hW1]; exact (Below.refl _ _).alloc (Nat.le_refl _) _
  have hbv : Below w.heap.size w V := by rw [hV]; exact hb1.alloc hb1.size _
  have hp : V.heap[pb]? = some (.cells #[.int .i64 f0, .int .i64 f1, .string f2, .bool f3] 30 (0, 0)) := by rw [hV, heap_alloc_old _ _ (by rw [hW1, hpb]; simp), hW1, hpb]; exact heap_alloc_new w _
  have hr : V.heap[rb]? = some (.cells #[.int .i64 0, .int .i64 0, .string ⟨#[]⟩, .bool false] 30 (0, 0)) := by rw [hV, hrb]; exact heap_alloc_new _ _
  have hrw : w.heap.size ≤ rb := by rw [hrb]; exact hb1.size
  have HP := Lib.hid hp
  have HR := Lib.hid hr
  have HB := Lib.hid hbv
  have HRW := Lib.hid hrw
  have HW1 := Lib.hid hW1
  have HV := Lib.hid hV
  have HPB := Lib.hid hpb
  have HRB := Lib.hid (show rb = pb + 1 by rw [hrb, hW1, hpb]; simp)
  have hpr : ¬ rb = pb := by rw [hrb, hW1, hpb]; simp
  obtain ⟨n, hn⟩ : ∃ n, n = f2.size := ⟨_, rfl⟩
  have hsn : f2.size = n := hn.symm
  have hn2 : n ≤ 2000000 := by omega
  have p0 := cell_of_row _ _ 0 _ _ (0, 0) hp
  have p1 := cell_of_row _ _ 1 _ _ (0, 0) hp
  have p2 := cell_of_row _ _ 2 _ _ (0, 0) hp
  have p3 := cell_of_row _ _ 3 _ _ (0, 0) hp
  have r0 := cell_of_row _ _ 0 _ _ (0, 0) hr
  have r1 := cell_of_row _ _ 1 _ _ (0, 0) hr
  have r2 := cell_of_row _ _ 2 _ _ (0, 0) hr
  have r3 := cell_of_row _ _ 3 _ _ (0, 0) hr
  have z0 := Gn.frozen_row hr 0
  have z1 := Gn.frozen_row hr 1
  have z2 := Gn.frozen_row hr 2
  have z3 := Gn.frozen_row hr 3
  clear hp hr hb1 hbv hW1 hV hpb hrb hrw hn
  by_cases hsame : f3 = true ∨ f2.size = 0
  · have hsp : spF ⟨f0, f1, f2, f3⟩ a v = (⟨f0, f1, f2, f3⟩, false) := by unfold spF; rw [if_pos hsame]
    rw [hsp]
    have HRS := Lib.hid (set4 HR.out (.int .i64 f0) (.int .i64 f1) (.string f2) (.bool f3))
    have HBE := Lib.hid (bel4 HB.out HRW.out (.int .i64 f0) (.int .i64 f1) (.string f2) (.bool f3))
    clear hsp
    by_cases hnz : n = 0
    · have hd : ((n : Int) == 0) = true := by simpa using hnz
      go_enter Try.func10, Try.ntmps10
      go_upto_region 1 with fail
      rw [← HPB.out, ← HW1.out, ← HRB.out, ← HV.out]
      go_wp2_with fail
      refine bodyPost_ret (results_ct (P := Try.prog) rfl _ _ rb 30 _ (0, 0) _ _ rfl rfl HRS.out Try.underlying30 rfl (by kernel_rfl)) rfl ?_
      exact ⟨rfl, HBE.out⟩
    · have hd : ((n : Int) == 0) = false := by simpa using (show ¬ (n : Int) = 0 by omega)
      have h3 : f3 = true := by rcases hsame with h | h; exact h; omega
      subst h3
      clear hsame
      go_enter Try.func10, Try.ntmps10
      go_upto_region 1 with fail
      rw [← HPB.out, ← HW1.out, ← HRB.out, ← HV.out]
      go_wp2_with fail
      refine bodyPost_ret (results_ct (P := Try.prog) rfl _ _ rb 30 _ (0, 0) _ _ rfl rfl HRS.out Try.underlying30 rfl (by kernel_rfl)) rfl ?_
      exact ⟨rfl, HBE.out⟩
  · have h3 : f3 = false := by cases f3 with | true => exact absurd (.inl rfl) hsame | false => rfl
    subst h3
    have hnz : 0 < n := by rcases Nat.eq_zero_or_pos n with h | h; exact absurd (.inr (by omega)) hsame; exact h
    clear hsame
    have hd : ((n : Int) == 0) = false := by simpa using (show ¬ (n : Int) = 0 by omega)
    obtain ⟨p, hp⟩ : ∃ p, p = plN a n := ⟨_, rfl⟩
    have hpn : p < n := by rw [hp]; exact plN_lt a hnz
    have HPL := Lib.hid (rplace_any a n hnz (by omega) V)
    rw [← hp] at HPL
    obtain ⟨x, hx⟩ : ∃ x, x = turns v := ⟨_, rfl⟩
    obtain ⟨T, hT⟩ : ∃ T, T = sp (bs f2) p x (min 4 (n - p)) := ⟨_, rfl⟩
    have hTl : T.length = n := by rw [hT, sp_len, bs_length, hsn]
    have hTS : spT f2 p v = ⟨T.toArray⟩ := by unfold spT; rw [hT, hx, hsn]
    have HGET := Lib.hid (fun (k : Nat) (hk : k < n) (hk2 : k < f2.size) => show T[k]? = some (if p ≤ k ∧ k - p < 4 then f2[k] ^^^ x (k - p) else f2[k]) from by
      rw [hT, sp_get, show (bs f2)[k]? = some f2[k] from by rw [List.getElem?_eq_getElem (by rw [bs_length]; exact hk2)]; rfl]
      by_cases h1 : p ≤ k ∧ k - p < 4
      · rw [if_pos (by omega), if_pos h1]; rfl
      · rw [if_neg (by omega), if_neg h1])
    have HSPF := Lib.hid (show spF ⟨f0, f1, f2, false⟩ a v = (if T = bs f2 then (⟨f0, f1, f2, false⟩, false) else (⟨f0, f1, ⟨T.toArray⟩, true⟩, true)) from by
      unfold spF
      simp only [Bool.false_eq_true, false_or]
      rw [if_neg (by omega), hsn, ← hp, hTS])
    have HX := Lib.hid hx
    have HTL := Lib.hid hTl
    have HSN := Lib.hid hsn
    clear hp hx hT hTl hTS
    go_enter Try.func10, Try.ntmps10
    go_upto_region 1 with fail
    rw [← HPB.out, ← HW1.out, ← HRB.out, ← HV.out]
    go_wp2_with fail
    refine HPL.out.mono ?_
    rintro e wv ⟨rfl, rfl⟩
    clear p0 p1 p2 p3 r0 r1 r2 r3 z0 z1 z2 z3
    go_wp2_with fail
    go_loopw [10, 11] (fun s i wr => ∃ k : Nat, k ≤ n ∧ s = .string ⟨(T.take k).toArray⟩ ∧ i = .int .i64 k ∧ Below V.heap.size V wr) (fun _ i _ => n - (intOf i).toNat)
    case atStart => exact ⟨0, by omega, rfl, rfl, Below.refl _ _⟩
    case round =>
      obtain ⟨k, hk, rfl, rfl, hbel⟩ := hrel
      obtain ⟨t, ht⟩ : ∃ t : ByteArray, t = ⟨(T.take k).toArray⟩ := ⟨_, rfl⟩
      have hts : t.size = k := by rw [ht]; show (T.take k).length = k; rw [List.length_take, HTL.out]; omega
      rw [← ht]
      have p0 := cell_of_row _ _ 0 _ _ (0, 0) ((hbel.block _ (Gn.heap_lt HP.out)).trans HP.out)
      have p1 := cell_of_row _ _ 1 _ _ (0, 0) ((hbel.block _ (Gn.heap_lt HP.out)).trans HP.out)
      have p2 := cell_of_row _ _ 2 _ _ (0, 0) ((hbel.block _ (Gn.heap_lt HP.out)).trans HP.out)
      have HT := Lib.hid ht
      have HBL := Lib.hid hbel
      have ht9 : t.size ≤ 2000000 := by omega
      clear ht hbel hts
      by_cases hlt : k < n
      · have hlt2 : (k : Int) < (n : Int) := by omega
        have hks : k < f2.size := by omega
        have hks2 : (k : Int) < (f2.size : Int) := by omega
        have hg := HGET.out k hlt hks
        have hc2 := (f2[k]'hks).toNat_lt
        by_cases hin : p ≤ k ∧ k - p < 4
        · obtain ⟨hi1, hi2⟩ := hin
          rw [if_pos ⟨hi1, hi2⟩] at hg
          obtain ⟨j, hj⟩ : ∃ j, j = k - p := ⟨_, rfl⟩
          rw [← hj] at hg hi2
          have hxk := turns_eq v j
          rw [← HX.out] at hxk
          obtain ⟨xk, hxx⟩ : ∃ xk, xk = x j := ⟨_, rfl⟩
          rw [← hxx] at hg hxk
          have hx2 := xk.toNat_lt
          have hxor := u8_xor_nat (f2[k]'hks).toNat xk.toNat (by omega) (by omega)
          obtain ⟨d, hdd⟩ : ∃ d : Nat, d = (f2[k]'hks).toNat ^^^ xk.toNat := ⟨_, rfl⟩
          rw [← hdd] at hxor
          have hdl : d < 256 := by rw [hdd]; exact Nat.xor_lt_two_pow (n := 8) (by omega) (by omega)
          have hsub : (k : Int) - (p : Int) = (j : Int) := by omega
          have hge : (p : Int) ≤ (k : Int) := by omega
          have hj4 : (j : Int) < 4 := by omega
          have hw2 : IntKind.i64.wrap (8 * (j : Int)) = ((8 * j : Nat) : Int) := IntWalk.i64_in _ (by omega)
          have hl2 : (8 * (j : Int)).toNat = 8 * j := by omega
          have hxw : IntKind.u8.wrap ((v : Int) / 2 ^ (8 * j)) = (xk.toNat : Int) := by rw [← hxk]; rfl
          have hob := one_byte d (d : Int) (by omega)
          have hcz : ¬ 9223372036854775807 < t.size + (ob d).size := by rw [ob_size]; omega
          have HG := Lib.hid (show T[k]? = some (UInt8.ofNat d) by
            rw [hg, hdd]
            congr 1
            apply UInt8.toNat_inj.1
            rw [UInt8.toNat_xor, UInt8.toNat_ofNat']
            exact (Nat.mod_eq_of_lt (by rw [← hdd]; exact hdl)).symm)
          clear hg hxx hdd hxk hj
          go_wp2_with fail
          go_roundw
          case rel => exact ⟨k + 1, by omega, by rw [HT.out, cat_ob, take_succ' _ _ _ HG.out], by go_num, HBL.out.alloc HBL.out.size _⟩
          case measure => simp [intOf]; omega
        · rw [if_neg hin] at hg
          have HG := Lib.hid (show T[k]? = some (UInt8.ofNat (f2[k]'hks).toNat) by
            rw [hg]
            congr 1
            apply UInt8.toNat_inj.1
            rw [UInt8.toNat_ofNat']
            exact (Nat.mod_eq_of_lt hc2).symm)
          have hob := one_byte (f2[k]'hks).toNat ((f2[k]'hks).toNat : Int) (by omega)
          have hcz : ¬ 9223372036854775807 < t.size + (ob (f2[k]'hks).toNat).size := by rw [ob_size]; omega
          clear hg
          by_cases h1 : p ≤ k
          · have hge : (p : Int) ≤ (k : Int) := by omega
            have h4 : ¬ (k : Int) - (p : Int) < 4 := by omega
            clear hin
            go_wp2_with fail
            go_roundw
            case rel => exact ⟨k + 1, by omega, by rw [HT.out, cat_ob, take_succ' _ _ _ HG.out], by go_num, HBL.out.alloc HBL.out.size _⟩
            case measure => simp [intOf]; omega
          · have hge : ¬ (p : Int) ≤ (k : Int) := by omega
            clear hin
            go_wp2_with fail
            go_roundw
            case rel => exact ⟨k + 1, by omega, by rw [HT.out, cat_ob, take_succ' _ _ _ HG.out], by go_num, HBL.out.alloc HBL.out.size _⟩
            case measure => simp [intOf]; omega
      · have hkn : k = n := by omega
        have hlt2 : ¬ (k : Int) < (n : Int) := by omega
        have hTt : t = ⟨T.toArray⟩ := by
          rw [HT.out, List.take_of_length_le (by rw [HTL.out]; omega)]
        have hr := (HBL.out.block _ (Gn.heap_lt HR.out)).trans HR.out
        have r0 := cell_of_row _ _ 0 _ _ (0, 0) hr
        have r1 := cell_of_row _ _ 1 _ _ (0, 0) hr
        have r2 := cell_of_row _ _ 2 _ _ (0, 0) hr
        have r3 := cell_of_row _ _ 3 _ _ (0, 0) hr
        have z0 := Gn.frozen_row hr 0
        have z1 := Gn.frozen_row hr 1
        have z2 := Gn.frozen_row hr 2
        have z3 := Gn.frozen_row hr 3
        have p3 := cell_of_row _ _ 3 _ _ (0, 0) ((HBL.out.block _ (Gn.heap_lt HP.out)).trans HP.out)
        have hq := toList_beq t f2
        have hbt : bs t = T := by rw [hTt]
        rw [hbt] at hq
        have HR2 := Lib.hid hr
        have HB2 := Lib.hid (HB.out.trans (HBL.out.mono HB.out.size))
        have HTT := Lib.hid hTt
        subst hkn
        clear hr hbt hTt hlt
        by_cases he : T = bs f2
        · rw [decide_eq_true he] at hq
          have HE := Lib.hid (show spF ⟨f0, f1, f2, false⟩ a v = (⟨f0, f1, f2, false⟩, false) by rw [HSPF.out, if_pos he])
          have HRS := Lib.hid (set4 HR2.out (.int .i64 f0) (.int .i64 f1) (.string f2) (.bool false))
          have HBE := Lib.hid (bel4 HB2.out HRW.out (.int .i64 f0) (.int .i64 f1) (.string f2) (.bool false))
          clear he
          go_wp2_with fail
          refine bodyPost_ret (results_ct (P := Try.prog) rfl _ _ rb 30 _ (0, 0) _ _ rfl rfl HRS.out Try.underlying30 rfl (by kernel_rfl)) rfl ?_
          rw [HE.out]
          exact ⟨rfl, HBE.out⟩
        · rw [decide_eq_false he] at hq
          have HE := Lib.hid (show spF ⟨f0, f1, f2, false⟩ a v = (⟨f0, f1, t, true⟩, true) by rw [HSPF.out, if_neg he, HTT.out])
          have HRS := Lib.hid (set4 HR2.out (.int .i64 f0) (.int .i64 f1) (.string t) (.bool true))
          have HBE := Lib.hid (bel4 HB2.out HRW.out (.int .i64 f0) (.int .i64 f1) (.string t) (.bool true))
          have hbd := rf_build f0 f1 t wr
          clear he
          go_wp2_with fail
          refine bodyPost_ret (results_ct (P := Try.prog) rfl _ _ rb 30 _ (0, 0) _ _ rfl rfl HRS.out Try.underlying30 rfl (by kernel_rfl)) rfl ?_
          rw [HE.out]
          exact ⟨rfl, HBE.out⟩
end Go.Proofs.Ytdkigbaodbkebaa.Nt
