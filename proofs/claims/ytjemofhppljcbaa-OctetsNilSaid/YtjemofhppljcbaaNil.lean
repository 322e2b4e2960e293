/-
  OctetsNil: of any item and any number the call returns true: of no Out nothing is written, of no In nothing is read; texts and lists that are too long can't be written. For every item and every number; no condition of ours.
-/
import Derived.Test.YtjemofhppljcbaaOctNil
import Derived.Test.YtjemofhppljcbaaOctCutMath
import Derived.Test.YtjemofhppljcbaaOctItem
import Derived.ProofKit
import Derived.OpenShut
import Derived.ShutString
import Derived.ChangeOld
import Derived.SliceStrings
namespace Go.Proofs.Ytjemofhppljcbaa.octetsNil
open Go.ChangeShapes Go.WideShapes Go.ChangeAt Go.RowKit Oct
open Go.ChangeMaps (open_string shut_string)
set_option linter.unusedVariables false

theorem own : ownKnob Try.prog.godebug = none := by kernel_rfl
theorem laidOut : laidOutB Try.prog = true := by kernel_rfl
theorem intinfo : (Try.prog.info? 3).map (fun i => (i.zero, i.size, i.bytes)) = some (some (.int .i64 0), 1, 8) := by kernel_rfl

theorem and_15 (z : Int) : bits .and .i64 z 15 = z % 16 := by
  show IntKind.i64.wrap ((BitVec.ofInt 64 z &&& BitVec.ofInt 64 15).toNat : Int) = _
  have h1 : (BitVec.ofInt 64 15).toNat = 2 ^ 4 - 1 := by decide
  rw [BitVec.toNat_and, h1, Nat.and_two_pow_sub_one_eq_mod, BitVec.toNat_ofInt]
  have e : (((z % (2 ^ 64 : Nat)).toNat % 2 ^ 4 : Nat) : Int) = z % 16 := by
    have h2 : (0 : Int) ≤ z % ((2 ^ 64 : Nat) : Int) := Int.emod_nonneg _ (by decide)
    have h3 : ((2 ^ 64 : Nat) : Int) = 18446744073709551616 := by decide
    have h4 : (2 ^ 4 : Nat) = 16 := by decide
    rw [h4, Int.natCast_emod, Int.toNat_of_nonneg h2, h3]
    omega
  rw [e, IntWalk.i64_in _ (by omega)]

/-- A slice of nothing but noughts, as make lays it. -/
theorem make_bytes (N : Nat) (hN : N ≤ 100000) (W : World) : (Instr.makeSlice 69 (.int .i64 (N : Int)) (.int .i64 (N : Int))).run Try.prog W = .ok (.slice (some ⟨W.heap.size, 0, none⟩) N N) (W.alloc (.cells (madeCells #[.int .u8 0] N) 5)) := by
  obtain ⟨i0, hi0, hz0, hz1, hz2⟩ := info_parts u8info
  have := run_make (P := Try.prog) W 69 5 i0 (.int .u8 0) Try.underlying69 hi0 hz0 .i64 .i64 N N (by omega) (by omega) (by rw [hz2]; omega) (by omega)
  rw [this, hz1, Int.toNat_natCast, Nat.mul_one]
  rfl
theorem make_ints (N : Nat) (hN : N ≤ 100000) (W : World) : (Instr.makeSlice 36 (.int .i64 (N : Int)) (.int .i64 (N : Int))).run Try.prog W = .ok (.slice (some ⟨W.heap.size, 0, none⟩) N N) (W.alloc (.cells (madeCells #[.int .i64 0] N) 3)) := by
  obtain ⟨i0, hi0, hz0, hz1, hz2⟩ := info_parts intinfo
  have := run_make (P := Try.prog) W 36 3 i0 (.int .i64 0) Try.underlying36 hi0 hz0 .i64 .i64 N N (by omega) (by omega) (by rw [hz2]; omega) (by omega)
  rw [this, hz1, Int.toNat_natCast, Nat.mul_one]
  rfl
theorem made_cell (z : Value) (N j : Nat) (hj : j < N) (W : World) (e : TypeId) : (W.alloc (.cells (madeCells #[z] N) e)).cell? ⟨W.heap.size, j, none⟩ = some z := by
  rw [cell_of_row _ _ j _ _ _ (heap_alloc_new W _), ← Array.getElem?_toList, toList_madeCells_one, List.getElem?_replicate, if_pos hj]
theorem zero_text (N : Nat) (T : ByteArray) (hT : T = ⟨(List.replicate N (0 : UInt8)).toArray⟩) (W : World) :
    (convert 69 9 (.slice (some ⟨W.heap.size, 0, none⟩) N N)).run Try.prog (W.alloc (.cells (madeCells #[.int .u8 0] N) 5)) = .ok (.string T) (W.alloc (.cells (madeCells #[.int .u8 0] N) 5)) := by
  have := run_convert_bytes_back (P := Try.prog) (W.alloc (.cells (madeCells #[.int .u8 0] N) 5)) 69 9 5 ⟨W.heap.size, 0, none⟩ N (List.replicate N (0 : UInt8)) Try.underlying69 Try.underlying5 Try.underlying9 (fun j hj => by
    have e : (⟨W.heap.size, 0, none⟩ : Addr).add j = ⟨W.heap.size, j, none⟩ := by unfold Addr.add; split <;> simp_all
    rw [e, made_cell _ N j (by simpa using hj)]
    simp)
  rw [List.length_replicate] at this
  rw [this, hT]

theorem OutSt.apart {w w' : World} {g g' c c' : Nat} {st : Option (List UInt8)} {p s b : Value} (h : OutSt w g c st) (hs : Sep g' c' w w') (hc : w.heap.size ≤ c') (hne : g ≠ g') (hg' : w.heap[g']? = some (obj p s b)) : OutSt w' g c st := by
  obtain ⟨hgc, hcw⟩ := h.lt
  have hsz := hs.size
  have keep : ∀ (k : Nat) (o : Obj), w.heap[k]? = some o → k ≠ g' → w'.heap[k]? = some o := fun k o hk hn => (hs.block k (Nat.lt_of_lt_of_le (heap_lt hk) hc) hn).trans hk
  have diff : ∀ (k : Nat) (cs : Array Value) (t : TypeId) (fr : Nat × Nat), w.heap[k]? = some (Obj.cells cs t fr) → t ≠ 34 → k ≠ g' := fun k cs t fr hk ht e => by
    subst e
    rw [hk] at hg'
    injection hg' with hg'
    injection hg' with _ e2
    exact ht e2
  cases st with
  | none => exact ⟨hgc, by omega, keep _ _ h.2.2 hne⟩
  | some l =>
    refine ⟨hgc, by omega, ?_⟩
    rcases h.2.2 with ⟨h1, h2⟩ | ⟨k, A, cap, hk, hg, hh, hown⟩
    · exact .inl ⟨h1, keep _ _ h2 hne⟩
    · refine .inr ⟨k, A, cap, hk, keep _ _ hg hne, keep _ _ hh (diff _ _ _ _ hh (by decide)), hown.1, ?_⟩
      rcases hown.2 with h2 | ⟨r, cp, cur, hv, hbr, hhr, hrest⟩
      · exact .inl h2
      · exact .inr ⟨r, cp, cur, hv, hbr, keep _ _ hhr (diff _ _ _ _ hhr (by decide)), hrest⟩

/-- Which texts and lists of noughts can be written. -/
theorem text_flag (N : Nat) : (app (some []) (eText (List.replicate N (0 : UInt8)))).isSome = decide ((N : Int) ≤ 65536) := by
  by_cases h : 65536 < (N : Int)
  · have : decide ((N : Int) ≤ 65536) = false := by simp; omega
    rw [this, eText, List.length_replicate, eLen, if_pos h]
    rfl
  · have : decide ((N : Int) ≤ 65536) = true := by simp; omega
    rw [this, eText, List.length_replicate, eLen, if_neg h, eInt, if_neg (by unfold rng; omega)]
    rfl
theorem nums_some (N k : Nat) : (eNums (List.replicate N 0) k).isSome = true := by
  induction k with
  | zero => rfl
  | succ k ih =>
    have hz : (List.replicate N (0 : Int)).getD k 0 = 0 := by
      rw [List.getD_eq_getElem?_getD, List.getElem?_replicate]
      split <;> rfl
    simp only [eNums, hz]
    cases h : eNums (List.replicate N 0) k with
    | none => rw [h] at ih; cases ih
    | some l => rw [eInt, if_neg (by unfold rng; omega)]; rfl
theorem ints_flag (N : Nat) : (app (some []) (eInts (List.replicate N 0))).isSome = decide ((N : Int) ≤ 65536) := by
  by_cases h : 65536 < (N : Int)
  · have : decide ((N : Int) ≤ 65536) = false := by simp; omega
    rw [this, eInts, List.length_replicate, if_pos (by omega)]
    rfl
  · have : decide ((N : Int) ≤ 65536) = true := by simp; omega
    rw [this, eInts, List.length_replicate, if_neg (by omega), eLen, if_neg h, eInt, if_neg (by unfold rng; omega)]
    have hn := nums_some N N
    cases h2 : eNums (List.replicate N 0) N with
    | none => rw [h2] at hn; cases hn
    | some l => rfl
theorem bytes_flag (g c : Nat) (st : Option (List UInt8)) (b : Bool) (hb : st.isSome = b) (W : World) (h : OutSt W g c st) :
    Calls Try.prog 17 #[.pointer (some ⟨g, 0, none⟩)] W fun e w' => e = .returned (.tuple #[.string ⟨(st.getD []).toArray⟩, .bool b]) ∧ Drew W w' := by
  subst hb
  exact bytes_any g c st W h

set_option maxRecDepth 100000 in
set_option maxHeartbeats 2000000 in
theorem walk (k n : Int) (b : Bool) (t : ByteArray) (ia sa : Option Addr) (il ic sl sc : Nat) (zs : List Int) (ss : List ByteArray) (y : Int) (w : World) (hn : Nums w ia il zs) (hs : Strs w sa sl ss) :
    Calls Try.prog 8 #[.agg #[.int .i64 k, .int .i64 n, .bool b, .string t, .slice ia il ic, .slice sa sl sc], .int .i64 y] w fun e w' => e = .returned (.bool true) ∧ Below w.heap.size w w' := by
  have HN := Lib.hid hn
  have HS := Lib.hid hs
  clear hn hs
  have hand := and_15 y
  obtain ⟨m, hm⟩ : ∃ m : Nat, y % 16 = m := ⟨(y % 16).toNat, by omega⟩
  have hm15 : m ≤ 15 := by omega
  rw [hm] at hand
  clear hm
  obtain ⟨N, hN⟩ : ∃ N, N = 65530 + m := ⟨_, rfl⟩
  have hcN : (65530 : Int) + (m : Int) = (N : Int) := by omega
  have hNb : N ≤ 65545 := by omega
  obtain ⟨T, hT⟩ : ∃ T : ByteArray, T = ⟨(List.replicate N (0 : UInt8)).toArray⟩ := ⟨_, rfl⟩
  have hbT : bs T = List.replicate N (0 : UInt8) := by rw [hT]
  have HBT := Lib.hid hbT
  have hmk1 := make_bytes N (by omega)
  have hmk2 := make_ints N (by omega)
  have hcv : ∀ (W : World) (q : Nat), W.heap.size = q → (convert 69 9 (.slice (some ⟨q, 0, none⟩) N N)).run Try.prog (W.alloc (.cells (madeCells #[.int .u8 0] N) 5)) = .ok (.string T) (W.alloc (.cells (madeCells #[.int .u8 0] N) 5)) := fun W q hq => by subst hq; exact zero_text N T hT W
  have hcells : ∀ (W : World), Below (w.heap.size + 1) (w.alloc (.cells #[.int .i64 k, .int .i64 n, .bool b, .string t, .slice ia il ic, .slice sa sl sc] 39)) W → ∀ i,
      W.cell? ⟨w.heap.size, i, none⟩ = (#[.int .i64 k, .int .i64 n, .bool b, .string t, .slice ia il ic, .slice sa sl sc] : Array Value)[i]? := fun W hW i =>
    (hW.cell (p := ⟨w.heap.size, i, none⟩) (by simp)).trans (cell_of_row _ _ i _ _ _ (heap_alloc_new w _))
  have HCL := Lib.hid hcells
  clear hN hT hbT hcells
  go_enter Try.func8, Try.ntmps8
  go_wp2_with fail
  refine (speaks_true _).mono ?_
  rintro e w1 ⟨rfl, b1⟩
  have c0 := HCL.out w1 (b1.mono (by simp)) 0
  have c1 := HCL.out w1 (b1.mono (by simp)) 1
  have c2 := HCL.out w1 (b1.mono (by simp)) 2
  have c3 := HCL.out w1 (b1.mono (by simp)) 3
  have c4 := HCL.out w1 (b1.mono (by simp)) 4
  have c5 := HCL.out w1 (b1.mono (by simp)) 5
  have B1 := Lib.hid (((Below.refl w.heap.size w).alloc (Nat.le_refl _) (.cells #[.int .i64 k, .int .i64 n, .bool b, .string t, .slice ia il ic, .slice sa sl sc] 39)).trans (b1.mono (by simp)))
  clear b1
  go_wp2_with fail
  refine (item_nil k n b t ia sa il ic sl sc zs ss _ (HN.out.below B1.out) (HS.out.below B1.out)).mono ?_
  rintro e w2 ⟨rfl, b2⟩
  have B2 := Lib.hid (B1.out.trans (b2.mono B1.out.size))
  clear b2 c0 c1 c2 c3 c4 c5
  go_wp2_with fail
  refine (bytes_nil _).mono ?_
  rintro e w' ⟨rfl, rfl⟩
  go_wp2_with fail
  refine (int_in_nil _).mono ?_
  rintro e w' ⟨rfl, rfl⟩
  go_wp2_with fail
  refine (bool_in_nil _).mono ?_
  rintro e w' ⟨rfl, rfl⟩
  go_wp2_with fail
  refine (text_in_nil _).mono ?_
  rintro e w' ⟨rfl, rfl⟩
  go_wp2_with fail
  refine (ints_in_nil _ _).mono ?_
  rintro e w' ⟨rfl, rfl⟩
  go_wp2_with fail
  refine (texts_in_nil _ _).mono ?_
  rintro e w' ⟨rfl, rfl⟩
  go_wp2_with fail
  refine (err_nil _).mono ?_
  rintro e w' ⟨rfl, rfl⟩
  go_wp2_with fail
  refine (end_nil _).mono ?_
  rintro e w' ⟨rfl, rfl⟩
  have hout1 : OutSt (((w2.alloc (obj (.pointer none) (.int .i64 0) (.bool false))).alloc (obj (.pointer none) (.int .i64 0) (.bool false))).alloc (.cells (madeCells #[.int .u8 0] N) 5)) w2.heap.size (w2.heap.size + 2) (some []) := by
    refine ⟨by omega, by simp, .inl ⟨rfl, ?_⟩⟩
    rw [Below.heap_alloc _ _ _ (by simp; omega), Below.heap_alloc _ _ _ (by simp)]
    exact heap_alloc_new w2 _
  have hq : (((w2.alloc (obj (.pointer none) (.int .i64 0) (.bool false))).alloc (obj (.pointer none) (.int .i64 0) (.bool false))).alloc (.cells (madeCells #[.int .u8 0] N) 5)).heap[w2.heap.size + 1]? = some (obj (.pointer none) (.int .i64 0) (.bool false)) := by
    rw [Below.heap_alloc _ _ _ (by simp)]
    have := heap_alloc_new (w2.alloc (obj (.pointer none) (.int .i64 0) (.bool false))) (obj (.pointer none) (.int .i64 0) (.bool false))
    simpa using this
  have HO1 := Lib.hid hout1
  have HQ := Lib.hid hq
  have B3 := Lib.hid (((B2.out.alloc B2.out.size (obj (.pointer none) (.int .i64 0) (.bool false))).alloc (by have := B2.out.size; simp; omega) (obj (.pointer none) (.int .i64 0) (.bool false))).alloc (by have := B2.out.size; simp; omega) (.cells (madeCells #[.int .u8 0] N) 5))
  have hsz2 := B2.out.size
  clear hout1 hq
  go_wp2_with fail
  refine (text_any w2.heap.size (w2.heap.size + 2) (some []) T _ HO1.out (by simp [Oct.len])).mono ?_
  rintro e w5 ⟨rfl, k1, k2⟩
  rw [HBT.out] at k1
  have hp := text_flag N
  have hqf := ints_flag N
  generalize app (some []) (eText (List.replicate N (0 : UInt8))) = stp at *
  have P1 := Lib.hid k1
  have HQ5 := Lib.hid ((k2.sep.block (w2.heap.size + 1) (by omega) (by omega)).trans HQ.out)
  have hs5 : w2.heap.size + 3 ≤ w5.heap.size := by have := k2.size; simpa using this
  have B5 := Lib.hid (B3.out.trans (k2.below (B := w.heap.size) (by omega) (by omega)))
  have HP := Lib.hid hp
  have HQF := Lib.hid hqf
  clear k1 k2 hp hqf
  have hout2 : OutSt (w5.alloc (.cells (madeCells #[.int .i64 0] N) 3)) (w2.heap.size + 1) (w5.heap.size + 1) (some []) :=
    ⟨by omega, by simp, .inl ⟨rfl, by rw [Below.heap_alloc _ _ _ (by omega)]; exact HQ5.out⟩⟩
  have hnum : Nums (w5.alloc (.cells (madeCells #[.int .i64 0] N) 3)) (some ⟨w5.heap.size, 0, none⟩) N (List.replicate N 0) := by
    refine ⟨by simp, fun h => ⟨w5.heap.size, 0, rfl, by simp, fun i hi => ?_⟩⟩
    rw [Nat.zero_add, made_cell _ N i hi, List.getD_eq_getElem?_getD, List.getElem?_replicate, if_pos hi]
    rfl
  have HO2 := Lib.hid hout2
  have HNU := Lib.hid hnum
  clear hout2 hnum
  go_wp2_with fail
  refine (ints_any (w2.heap.size + 1) (w5.heap.size + 1) (some []) _ N N (List.replicate N 0) _ HO2.out HNU.out (by simp [Oct.len]) (fun b off h => by
    injection h with h
    injection h with h1 _
    exact ⟨by omega, by omega⟩)).mono ?_
  rintro e w6 ⟨rfl, k1, k2⟩
  generalize app (some []) (eInts (List.replicate N 0)) = stq at *
  have P6 := Lib.hid (OutSt.apart (P1.out.below ((Below.refl _ _).alloc (Nat.le_refl _) (.cells (madeCells #[.int .i64 0] N) 3))) k2.sep (by simp) (by omega) (by rw [Below.heap_alloc _ _ _ (by omega)]; exact HQ5.out))
  have Q6 := Lib.hid k1
  have B6 := Lib.hid ((B5.out.alloc B5.out.size (.cells (madeCells #[.int .i64 0] N) 3)).trans (k2.below (B := w.heap.size) (by omega) (by have := B5.out.size; omega)))
  clear k1 k2
  cases hd : decide ((N : Int) ≤ 65536)
  all_goals
    rw [hd] at HP HQF
    have hle := hd
    go_wp2_with fail
    refine (bytes_flag _ _ _ _ HP.out _ P6.out).mono ?_
    rintro e w7 ⟨rfl, d1⟩
    have Q7 := Lib.hid (Q6.out.drew d1)
    have B7 := Lib.hid (B6.out.trans (d1.below w.heap.size))
    clear d1
    go_wp2_with fail
    refine (bytes_flag _ _ _ _ HQF.out _ Q7.out).mono ?_
    rintro e w8 ⟨rfl, d2⟩
    have B8 := Lib.hid (B7.out.trans (d2.below w.heap.size))
    clear d2
    go_wp2
    go_ret
    exact ⟨rfl, B8.out⟩

set_option maxRecDepth 100000 in
theorem lifted (os : Os) (started : os.Started) (H : Type) (enc : TypeId × Value → H) :
    ReturnsInHanded {} Try.checked os 8 .any (Rows.octetsNilSpec.pre6 enc Try.prog Try.f8 Rows.octetsNilRow.domain false) (Rows.octetsNilSpec.post enc Try.prog Try.f8 false true false false) := by
  refine returnsInHanded_of_change (C := Try.checked) own started (by kernel_rfl) Try.func8
    (ChangeSpec.witness6 (enc := enc) (C := Try.checked) false ⟨#[], #[.agg #[.int .i64 0, .int .i64 0, .bool false, .string ByteArray.empty, .slice none 0 0, .slice none 0 0], .int .i64 0], []⟩ 8 (by kernel_rfl) (by kernel_rfl) (by kernel_rfl) (by kernel_rfl)) ?_
  intro W base args ds gs before hval0 hW hcnd _
  have hval : ∀ (j : Nat) t v, Try.f8.params[j]? = some t → args[j]? = some v → Value.okWide Try.prog W .any base t v := hval0
  have hW' := hW
  obtain ⟨p, q, hA0, hV, rfl, hfz, hnd⟩ := hW
  have hA : DataW.TrodAll enc Try.prog W 0 (fun _ => true) true Try.f8.params.toList args.toList ds p := hA0
  rw [Try.params8] at hA hval
  obtain ⟨v0, vs0, d0, ds0, p0, q0, hargs, rfl, rfl, h0, r0⟩ := trodAll_cons hA
  obtain ⟨v1, vs1, d1, ds1, p1, q1, rfl, rfl, rfl, h1, r1⟩ := trodAll_cons r0
  obtain ⟨rfl, rfl, rfl⟩ := trodAll_nil r1
  obtain rfl : args = #[v0, v1] := by cases args; simp_all
  obtain ⟨rfl, rfl⟩ := trodVars_none hV
  have k0 := h0
  have lt0 : ∀ x ∈ p0, x.block < W.heap.size := by obtain ⟨m, hm⟩ := k0; exact DataW.trod_lt m _ _ _ hm
  obtain ⟨k, n, b, t, ia, sa, il, ic, sl, sc, zs, ss, rfl, h5, h7⟩ := item_value (hval 0 39 v0 rfl rfl) h0
  obtain ⟨a1, rfl, rfl, rfl, w1⟩ := open_int Try.underlying3 (hval 1 3 v1 rfl rfl) h1
  clear hA0 hval0
  refine (walk k n b t ia sa il ic sl sc zs ss a1 W h5 h7).mono fun e W' ⟨he, bel⟩ => ?_
  subst he
  exact ⟨_, rfl, _, _, _, [], _, [], hW', trodAll_mk1 (shut_bool Try.underlying4 _), (trodAll_cons_mk (Below.trod laidOut (by kernel_rfl) (of_decide_eq_true (by kernel_rfl)) k0 bel lt0) (trodAll_cons_mk (shut_int Try.underlying3 w1) trodAll_mk0)), rfl, bel.frame _, fun h => by cases h⟩

theorem over : Rows.octetsNilRow.holds Try.pinned (OpenSpec.ofChange Rows.octetsNilSpec) :=
  OpenClaim.holds_of_wide 8 Try.f8 rfl rfl rfl rfl rfl rfl rfl ⟨rfl, rfl, rfl, rfl, rfl⟩ rfl rfl rfl rfl rfl (by kernel_rfl) Try.func8 (by kernel_rfl)
    (of_decide_eq_true (by kernel_rfl)) (by unfold Func.isWrapper; first | (rw [if_pos (by decide +kernel)]; kernel_rfl) | (rw [if_neg (by decide +kernel)]; exact ⟨rfl, rfl⟩))
    (fun os started H enc _ => lifted os started H enc)

theorem proved : Rows.OctetsNilSaid := over
#print axioms proved
end Go.Proofs.Ytjemofhppljcbaa.octetsNil
