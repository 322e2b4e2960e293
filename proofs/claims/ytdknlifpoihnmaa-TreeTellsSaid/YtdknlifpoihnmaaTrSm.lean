/-
  Layer 14: the document's Nodes and Deep.
  Layer 14: the document's Yield.
  Layer 14: the document's Leftmost.
  Layer 14: the document's Put.
-/
import Derived.Test.YtdknlifpoihnmaaTrTo
import Derived.Test.YtdknlifpoihnmaaTrP
import Derived.Test.YtdknlifpoihnmaaTrYield
import Derived.Test.YtdknlifpoihnmaaTrPut
import Derived.Test.YtdknlifpoihnmaaTrThere
import Derived.Test.YtdknlifpoihnmaaOctRefPut

namespace Go.Proofs.Ytdknlifpoihnmaa.Tr
open Go.RowKit
open Gn (Asks)
set_option maxRecDepth 100000
set_option linter.unusedSimpArgs false
set_option linter.unusedVariables false
set_option maxHeartbeats 4000000 in
theorem rnodes_any {t : Tr} (hs : SmT t) : nodesT t ≤ 1099511627776 → ∀ (P : Nat → Prop) (W : World) (x y : Value), TrAt P W t x y → Calls Try.prog 21 #[.agg #[x, y]] W fun e w' => e = .returned (.int .i64 (nodesT t : Nat)) ∧ Below W.heap.size W w' := by
  induction hs with
  | mk n l hlen hl ih =>
    intro hn P W x y h
    obtain ⟨rfl, A, cap, r, a, b, rfl, hcap, hA, hc⟩ := h.open_
    obtain ⟨m, hm⟩ : ∃ m, m = l.length := ⟨_, rfl⟩
    rw [← hm] at hA hcap hlen ⊢
    obtain ⟨V, hV⟩ : ∃ V, V = W.alloc (.cells #[.int .i64 n, .slice A m cap] 43) := ⟨_, rfl⟩
    have hb0 : Below W.heap.size W V := by rw [hV]; exact (Below.refl _ W).alloc (Nat.le_refl _) _
    have hx0 : V.heap[W.heap.size]? = some (.cells #[.int .i64 n, .slice A m cap] 43 (0, 0)) := by rw [hV]; exact heap_alloc_new W _
    rw [nodesT] at hn ⊢
    obtain ⟨S, hS⟩ : ∃ S, S = nodesL l := ⟨_, rfl⟩
    rw [← hS] at hn ⊢
    have HMM := Lib.hid hm
    have HS := Lib.hid hS
    have HA := Lib.hid hA
    have HC := Lib.hid hc
    have HIH := Lib.hid ih
    have HV := Lib.hid hV
    have HB0 := Lib.hid hb0
    have HX0 := Lib.hid hx0
    have q1 := cell_of_row _ _ 1 _ _ (0, 0) hx0
    clear hm hA hc ih hl h hV hb0 hx0 hS
    go_enter Try.func21, Try.ntmps21
    go_upto_region 1 with fail
    rw [← HV.out]
    go_wp2_with fail
    go_loopw [3, 4] (fun s i wr => ∃ j k : Nat, j ≤ m ∧ k = nodesL (l.take j) + 1 ∧ s = .int .i64 k ∧ i = .int .i64 j ∧ Below V.heap.size V wr) (fun _ i _ => m - (intOf i).toNat)
    case atStart => exact ⟨0, _, Nat.zero_le _, rfl, by simp [nodesL], rfl, Below.refl _ _⟩
    case round =>
      obtain ⟨j, k, hj, hk, rfl, rfl, hbel⟩ := hrel
      have HK := Lib.hid hk
      have HBV := Lib.hid hbel
      have HBL := Lib.hid (HB0.out.trans (hbel.mono HB0.out.size))
      have s1 := (hbel.cell (p := ⟨W.heap.size, 1, none⟩) (Gn.heap_lt HX0.out)).trans q1
      have hle : nodesL (l.take j) ≤ S := by rw [HS.out]; exact nodesL_le l j
      clear hbel hk
      by_cases hjm : j < m
      · have hjm2 : (j : Int) < (m : Int) := by omega
        have hjl : j < l.length := by rw [← HMM.out]; exact hjm
        obtain ⟨eA, hr, hPr⟩ := HA.out (by omega)
        subst eA
        obtain ⟨⟨p0, p1⟩, hk9⟩ := HC.out j hjl
        obtain ⟨kn, kA, km, kc, f1, f2⟩ := hk9.form
        rw [f1] at p0
        rw [f2] at p1
        rw [f1, f2] at hk9
        have y0 := (HBL.out.cell (p := ⟨r, j * 2, none⟩) hr).trans p0
        have y1 := (HBL.out.cell (p := ⟨r, j * 2 + 1, none⟩) hr).trans p1
        have htk := nodesL_take l j hjl
        have hle2 : nodesL (l.take (j + 1)) ≤ S := by rw [HS.out]; exact nodesL_le l (j + 1)
        rw [htk] at hle2
        obtain ⟨z, hz⟩ : ∃ z, z = nodesT l[j] := ⟨_, rfl⟩
        have hkc := HIH.out l[j] (List.getElem_mem hjl) (by omega) P wr _ _ (hk9.under HBL.out)
        rw [← hz] at hle2 htk hkc
        have HKC := Lib.hid hkc
        have HTK := Lib.hid htk
        have hk2 := HK.out
        obtain ⟨g, hg⟩ : ∃ g, g = nodesL (l.take j) := ⟨_, rfl⟩
        rw [← hg] at hk2 hle hle2
        have HG := Lib.hid hg
        clear hk9 p0 p1 f1 f2 htk hkc hz hg
        go_wp2_with fail
        refine HKC.out.mono ?_
        rintro e w5 ⟨rfl, hb5⟩
        have HB5 := Lib.hid (HBV.out.trans (hb5.mono HBV.out.size))
        clear hb5
        go_wp2_with fail
        go_roundw
        case rel => exact ⟨j + 1, k + z, by omega, by rw [HTK.out, ← HG.out]; omega, by go_num, by go_num, HB5.out⟩
        case measure => simp [intOf]; omega
      · have hje : j = m := by omega
        subst hje
        have hjm2 : ¬ ((j : Nat) : Int) < ((j : Nat) : Int) := by omega
        have hk2 := HK.out
        rw [show l.take j = l by rw [HMM.out, List.take_length], ← HS.out] at hk2
        have hks : k ≤ S + 1 := by omega
        clear hle
        go_wp2_with fail
        go_ret
        exact ⟨rfl, HBL.out⟩
theorem deepL_take_le (l : List Tr) (i : Nat) : deepL (l.take i) ≤ deepL l := by
  induction l generalizing i with
  | nil => simp [deepL]
  | cons a r ih =>
    cases i with
    | zero => simp [deepL]
    | succ i => rw [List.take_succ_cons, deepL, deepL]; have := ih i; omega
set_option maxHeartbeats 4000000 in
theorem rdeep_any {t : Tr} (hs : SmT t) : deepT t ≤ 1099511627776 → ∀ (P : Nat → Prop) (W : World) (x y : Value), TrAt P W t x y → Calls Try.prog 22 #[.agg #[x, y]] W fun e w' => e = .returned (.int .i64 (deepT t : Nat)) ∧ Below W.heap.size W w' := by
  induction hs with
  | mk n l hlen hl ih =>
    intro hn P W x y h
    obtain ⟨rfl, A, cap, r, a, b, rfl, hcap, hA, hc⟩ := h.open_
    obtain ⟨m, hm⟩ : ∃ m, m = l.length := ⟨_, rfl⟩
    rw [← hm] at hA hcap hlen ⊢
    obtain ⟨V, hV⟩ : ∃ V, V = W.alloc (.cells #[.int .i64 n, .slice A m cap] 43) := ⟨_, rfl⟩
    have hb0 : Below W.heap.size W V := by rw [hV]; exact (Below.refl _ W).alloc (Nat.le_refl _) _
    have hx0 : V.heap[W.heap.size]? = some (.cells #[.int .i64 n, .slice A m cap] 43 (0, 0)) := by rw [hV]; exact heap_alloc_new W _
    rw [deepT] at hn ⊢
    obtain ⟨S, hS⟩ : ∃ S, S = deepL l := ⟨_, rfl⟩
    rw [← hS] at hn ⊢
    have HMM := Lib.hid hm
    have HS := Lib.hid hS
    have HA := Lib.hid hA
    have HC := Lib.hid hc
    have HIH := Lib.hid ih
    have HV := Lib.hid hV
    have HB0 := Lib.hid hb0
    have HX0 := Lib.hid hx0
    have q1 := cell_of_row _ _ 1 _ _ (0, 0) hx0
    clear hm hA hc ih hl h hV hb0 hx0 hS
    go_enter Try.func22, Try.ntmps22
    go_upto_region 1 with fail
    rw [← HV.out]
    go_wp2_with fail
    go_loopw [3, 4] (fun s i wr => ∃ j k : Nat, j ≤ m ∧ k = deepL (l.take j) ∧ s = .int .i64 k ∧ i = .int .i64 j ∧ Below V.heap.size V wr) (fun _ i _ => m - (intOf i).toNat)
    case atStart => exact ⟨0, _, Nat.zero_le _, rfl, by simp [deepL], rfl, Below.refl _ _⟩
    case round =>
      obtain ⟨j, k, hj, hk, rfl, rfl, hbel⟩ := hrel
      have HK := Lib.hid hk
      have HBV := Lib.hid hbel
      have HBL := Lib.hid (HB0.out.trans (hbel.mono HB0.out.size))
      have s1 := (hbel.cell (p := ⟨W.heap.size, 1, none⟩) (Gn.heap_lt HX0.out)).trans q1
      have hle : deepL (l.take j) ≤ S := by rw [HS.out]; exact deepL_take_le l j
      clear hbel hk
      by_cases hjm : j < m
      · have hjm2 : (j : Int) < (m : Int) := by omega
        have hjl : j < l.length := by rw [← HMM.out]; exact hjm
        obtain ⟨eA, hr, hPr⟩ := HA.out (by omega)
        subst eA
        obtain ⟨⟨p0, p1⟩, hk9⟩ := HC.out j hjl
        obtain ⟨kn, kA, km, kc, f1, f2⟩ := hk9.form
        rw [f1] at p0
        rw [f2] at p1
        rw [f1, f2] at hk9
        have y0 := (HBL.out.cell (p := ⟨r, j * 2, none⟩) hr).trans p0
        have y1 := (HBL.out.cell (p := ⟨r, j * 2 + 1, none⟩) hr).trans p1
        have htk := deepL_take l j hjl
        have hle2 : deepL (l.take (j + 1)) ≤ S := by rw [HS.out]; exact deepL_take_le l (j + 1)
        rw [htk] at hle2
        obtain ⟨z, hz⟩ : ∃ z, z = deepT l[j] := ⟨_, rfl⟩
        have hkc := HIH.out l[j] (List.getElem_mem hjl) (by omega) P wr _ _ (hk9.under HBL.out)
        rw [← hz] at hle2 htk hkc
        have HKC := Lib.hid hkc
        have HTK := Lib.hid htk
        have hk2 := HK.out
        obtain ⟨g, hg⟩ : ∃ g, g = deepL (l.take j) := ⟨_, rfl⟩
        rw [← hg] at hk2 hle hle2
        have HG := Lib.hid hg
        clear hk9 p0 p1 f1 f2 htk hkc hz hg
        go_wp2_with fail
        refine HKC.out.mono ?_
        rintro e w5 ⟨rfl, hb5⟩
        have HB5 := Lib.hid (HBV.out.trans (hb5.mono HBV.out.size))
        clear hb5
        by_cases hzk : k < z
        · have hzk2 : (k : Int) < (z : Int) := by omega
          go_wp2_with fail
          go_roundw
          case rel => exact ⟨j + 1, z, by omega, by rw [HTK.out, ← HG.out]; omega, rfl, by go_num, HB5.out⟩
          case measure => simp [intOf]; omega
        · have hzk2 : ¬ (k : Int) < (z : Int) := by omega
          go_wp2_with fail
          go_roundw
          case rel => exact ⟨j + 1, g, by omega, by rw [HTK.out, ← HG.out]; omega, rfl, by go_num, HB5.out⟩
          case measure => simp [intOf]; omega
      · have hje : j = m := by omega
        subst hje
        have hjm2 : ¬ ((j : Nat) : Int) < ((j : Nat) : Int) := by omega
        have hk2 := HK.out
        rw [show l.take j = l by rw [HMM.out, List.take_length], ← HS.out] at hk2
        have hks : k ≤ S + 1 := by omega
        clear hle
        go_wp2_with fail
        go_ret
        exact ⟨rfl, HBL.out⟩
end Go.Proofs.Ytdknlifpoihnmaa.Tr

namespace Go.Proofs.Ytdknlifpoihnmaa.Tr
open Go.RowKit
open Gn (Asks)
open Fx (IntsAt own_of_block own_base)
set_option maxRecDepth 100000
set_option linter.unusedSimpArgs false
set_option linter.unusedVariables false
mutual
theorem yield_few : ∀ t : Tr, (yieldT t).length ≤ nodesT t
  | .mk n l => by
    rw [yieldT, nodesT]
    have := yields_few l
    split
    · simp
    · omega
theorem yields_few : ∀ l : List Tr, (yieldL l).length ≤ nodesL l
  | [] => by simp [yieldL]
  | a :: r => by
    rw [yieldL, nodesL, List.length_append]
    have := yield_few a
    have := yields_few r
    omega
end
theorem yieldL_one (t : Tr) : ∀ l : List Tr, yieldL (l ++ [t]) = yieldL l ++ yieldT t
  | [] => by simp [yieldL]
  | a :: l => by rw [List.cons_append, yieldL, yieldL, yieldL_one t l, List.append_assoc]
theorem yieldL_more (l : List Tr) (i : Nat) (h : i < l.length) : yieldL (l.take (i + 1)) = yieldL (l.take i) ++ yieldT l[i] := by rw [List.take_succ_eq_append_getElem h, yieldL_one]
set_option maxHeartbeats 4000000 in
theorem ryield_any {t : Tr} (hs : SmT t) : InT t → nodesT t ≤ 1099511627776 → ∀ (P : Nat → Prop) (W : World) (x y : Value), TrAt P W t x y → Calls Try.prog 20 #[.agg #[x, y]] W fun e w' => ∃ v, e = .returned v ∧ IntsAt (fun r => W.heap.size ≤ r) w' (yieldT t) v ∧ Below W.heap.size W w' := by
  induction hs with
  | mk n l hlen hl ih =>
    intro hin hn P W x y h
    obtain ⟨rfl, A, cap, r, a, b, rfl, hcap, hA, hc⟩ := h.open_
    obtain ⟨m, hm⟩ : ∃ m, m = l.length := ⟨_, rfl⟩
    rw [← hm] at hA hcap hlen ⊢
    obtain ⟨V, hV⟩ : ∃ V, V = W.alloc (.cells #[.int .i64 n, .slice A m cap] 43) := ⟨_, rfl⟩
    have hb0 : Below W.heap.size W V := by rw [hV]; exact (Below.refl _ W).alloc (Nat.le_refl _) _
    have hx0 : V.heap[W.heap.size]? = some (.cells #[.int .i64 n, .slice A m cap] 43 (0, 0)) := by rw [hV]; exact heap_alloc_new W _
    have hVz : V.heap.size = W.heap.size + 1 := by rw [hV]; simp
    rw [nodesT] at hn
    have HMM := Lib.hid hm
    have HA := Lib.hid hA
    have HC := Lib.hid hc
    have HIH := Lib.hid ih
    have HV := Lib.hid hV
    have HVZ := Lib.hid hVz
    have HB0 := Lib.hid hb0
    have HX0 := Lib.hid hx0
    have HIN := Lib.hid hin
    have q0 := cell_of_row _ _ 0 _ _ (0, 0) hx0
    have q1 := cell_of_row _ _ 1 _ _ (0, 0) hx0
    clear hm hA hc ih hl h hV hb0 hx0 hin hVz
    by_cases hneg : n < 0
    · have hw : IntKind.i64.wrap (-1 - n) = -1 - n := HIN.out n (by rw [preT]; exact List.mem_cons_self) hneg
      have HY := Lib.hid (show yieldT (.mk n l) = [-1 - n] by rw [yieldT, if_pos hneg])
      go_enter Try.func20, Try.ntmps20
      go_upto_region 1 with fail
      rw [← HV.out]
      go_wp2_with fail
      go_ret
      refine ⟨_, rfl, ?_, HB0.out.alloc HB0.out.size _⟩
      rw [HY.out]
      refine ⟨some ⟨V.heap.size, 0, none⟩, 1, V.heap.size, rfl, Nat.le_refl _, fun _ => ⟨rfl, by simp, HB0.out.size⟩, fun i hi => ?_⟩
      have hi0 : i = 0 := by simp at hi; omega
      subst hi0
      exact cell_of_row _ _ 0 _ _ (0, 0) (heap_alloc_new V (.cells #[.int .i64 (-1 - n)] 3))
    have HY := Lib.hid (show yieldT (.mk n l) = yieldL l by rw [yieldT, if_neg hneg])
    go_enter Try.func20, Try.ntmps20
    go_upto_region 1 with fail
    rw [← HV.out]
    go_wp2_with fail
    go_loopw [3, 4] (fun v i wr => ∃ (j : Nat) (A2 : Option Addr) (c2 : Nat) (xs : List Int), j ≤ m ∧ xs = yieldL (l.take j) ∧ v = .slice A2 xs.length c2 ∧ i = .int .i64 j ∧ wr.ownsRow (W.heap.size + 1) 3 1 (.slice A2 xs.length c2) xs.length (xs.map (Value.int .i64)) ∧ Below V.heap.size V wr) (fun _ i _ => m - (intOf i).toNat)
    case atStart => exact ⟨0, none, 0, [], Nat.zero_le _, by rw [List.take_zero, yieldL], rfl, rfl, World.ownsRow_nil _ _ _ _, Below.refl _ _⟩
    case round =>
      obtain ⟨j, A2, c2, xs, hj, hxs, rfl, rfl, ho, hbel⟩ := hrel
      have HXS := Lib.hid hxs
      have HBV := Lib.hid hbel
      have HBL := Lib.hid (HB0.out.trans (hbel.mono HB0.out.size))
      have HO := Lib.hid ho
      have s1 := (hbel.cell (p := ⟨W.heap.size, 1, none⟩) (Gn.heap_lt HX0.out)).trans q1
      have hle : xs.length ≤ 1099511627776 := by
        have h1 := yields_few (l.take j)
        have h2 := nodesL_le l j
        rw [hxs]
        omega
      clear hbel hxs ho
      by_cases hjm : j < m
      · have hjm2 : (j : Int) < (m : Int) := by omega
        have hjl : j < l.length := by rw [← HMM.out]; exact hjm
        obtain ⟨eA, hr, hPr⟩ := HA.out (by omega)
        subst eA
        obtain ⟨⟨p0, p1⟩, hk9⟩ := HC.out j hjl
        obtain ⟨kn, kA, km, kc, f1, f2⟩ := hk9.form
        rw [f1] at p0
        rw [f2] at p1
        rw [f1, f2] at hk9
        have y0 := (HBL.out.cell (p := ⟨r, j * 2, none⟩) hr).trans p0
        have y1 := (HBL.out.cell (p := ⟨r, j * 2 + 1, none⟩) hr).trans p1
        have hnt := nodesL_take l j hjl
        have hnl := nodesL_le l (j + 1)
        obtain ⟨zs, hzs⟩ : ∃ zs, zs = yieldT l[j] := ⟨_, rfl⟩
        have hkc := HIH.out l[j] (List.getElem_mem hjl) (HIN.out.kid hjl) (by omega) P wr _ _ (hk9.under HBL.out)
        have hzl := yield_few l[j]
        have htk := yieldL_more l j hjl
        rw [← hzs] at hkc hzl htk
        rw [← HXS.out] at htk
        have hsum : xs.length + zs.length ≤ 8796093022208 := by omega
        have HKC := Lib.hid hkc
        have HTK := Lib.hid htk
        clear hk9 p0 p1 f1 f2 htk hkc hzs hzl hnt hnl
        go_wp2_with fail
        refine HKC.out.mono ?_
        rintro e w5 ⟨v5, rfl, hi5, hb5⟩
        obtain ⟨A5, c5, rfl⟩ := hi5.form
        have HB5 := Lib.hid (HBV.out.trans (hb5.mono HBV.out.size))
        have HO5 := Lib.hid (own_of_block HO.out fun g e => hb5.block g (Gn.own_lt HO.out g e))
        have HI5 := Lib.hid hi5
        have hz5 : W.heap.size + 1 ≤ w5.heap.size := by have := HB5.out.size; have := HVZ.out; omega
        clear hb5 hi5
        go_wp2_with (at_builtin; refine wpList_append_ints _ rfl _ _ rfl (W.heap.size + 1) (.slice A2 xs.length c2) xs.length _ rfl HO5.out _ zs _ rfl HI5.out hsum hz5 ?_; intro v6 w6 ho6 hg6 hat6; have HO6 := Lib.hid ho6; have HG6 := Lib.hid hg6; clear ho6 hg6 hat6)
        have h9 : w6.ownsRow (W.heap.size + 1) 3 1 v6 (xs ++ zs).length ((xs ++ zs).map (Value.int .i64)) := by rw [List.length_append, List.map_append]; exact HO6.out
        obtain ⟨A6, c6, rfl⟩ := Gn.slice_of h9
        have HO9 := Lib.hid h9
        have HB6 := Lib.hid (show Below V.heap.size V w6 from Below.grown HB5.out HG6.out HB5.out.size (fun k e => by have := (own_base HO5.out e).1; have := HVZ.out; omega))
        clear h9
        go_roundw
        case rel => exact ⟨j + 1, A6, c6, xs ++ zs, by omega, HTK.out.symm, rfl, by go_num, HO9.out, HB6.out⟩
        case measure => simp [intOf]; omega
      · have hje : j = m := by omega
        subst hje
        have hjm2 : ¬ ((j : Nat) : Int) < ((j : Nat) : Int) := by omega
        have hx9 : xs = yieldL l := by rw [HXS.out, HMM.out, List.take_length]
        have HX9 := Lib.hid hx9
        clear hx9
        go_wp2_with fail
        go_ret
        refine ⟨_, rfl, ?_, HBL.out⟩
        rw [HY.out, ← HX9.out]
        exact (IntsAt.of_own HO.out).keep (Nat.le_refl _) fun r hr _ => ⟨by omega, fun _ => rfl⟩
end Go.Proofs.Ytdknlifpoihnmaa.Tr

namespace Go.Proofs.Ytdknlifpoihnmaa.Tr
open Go.RowKit
open Gn (Asks)
open Fx (IntsAt own_of_block own_base)
set_option maxRecDepth 100000
set_option linter.unusedSimpArgs false
set_option linter.unusedVariables false
mutual
theorem prod_few : ∀ t : Tr, (prodT t).length ≤ nodesT t
  | .mk n l => by
    rw [prodT, nodesT, List.length_append]
    have := prods_few l
    split
    · simp; omega
    · simp; omega
theorem prods_few : ∀ l : List Tr, (prodL l).length ≤ nodesL l
  | [] => by simp [prodL]
  | a :: r => by
    rw [prodL, nodesL, List.length_append]
    have := prod_few a
    have := prods_few r
    omega
end
theorem prodL_one (t : Tr) : ∀ l : List Tr, prodL (l ++ [t]) = prodL l ++ prodT t
  | [] => by simp [prodL]
  | a :: l => by rw [List.cons_append, prodL, prodL, prodL_one t l, List.append_assoc]
theorem prodL_more (l : List Tr) (i : Nat) (h : i < l.length) : prodL (l.take (i + 1)) = prodL (l.take i) ++ prodT l[i] := by rw [List.take_succ_eq_append_getElem h, prodL_one]
set_option maxHeartbeats 4000000 in
theorem rleft_any {t : Tr} (hs : SmT t) : nodesT t ≤ 1099511627776 → ∀ (P : Nat → Prop) (W : World) (x y : Value), TrAt P W t x y → Calls Try.prog 24 #[.agg #[x, y]] W fun e w' => ∃ v, e = .returned v ∧ IntsAt (fun r => W.heap.size ≤ r) w' (prodT t) v ∧ Below W.heap.size W w' := by
  induction hs with
  | mk n l hlen hl ih =>
    intro hn P W x y h
    obtain ⟨rfl, A, cap, r, a, b, rfl, hcap, hA, hc⟩ := h.open_
    obtain ⟨m, hm⟩ : ∃ m, m = l.length := ⟨_, rfl⟩
    rw [← hm] at hA hcap hlen ⊢
    obtain ⟨V, hV⟩ : ∃ V, V = W.alloc (.cells #[.int .i64 n, .slice A m cap] 43) := ⟨_, rfl⟩
    have hb0 : Below W.heap.size W V := by rw [hV]; exact (Below.refl _ W).alloc (Nat.le_refl _) _
    have hx0 : V.heap[W.heap.size]? = some (.cells #[.int .i64 n, .slice A m cap] 43 (0, 0)) := by rw [hV]; exact heap_alloc_new W _
    have hVz : V.heap.size = W.heap.size + 1 := by rw [hV]; simp
    rw [nodesT] at hn
    have HMM := Lib.hid hm
    have HA := Lib.hid hA
    have HC := Lib.hid hc
    have HIH := Lib.hid ih
    have HV := Lib.hid hV
    have HVZ := Lib.hid hVz
    have HB0 := Lib.hid hb0
    have HX0 := Lib.hid hx0
    have q0 := cell_of_row _ _ 0 _ _ (0, 0) hx0
    have q1 := cell_of_row _ _ 1 _ _ (0, 0) hx0
    clear hm hA hc ih hl h hV hb0 hx0 hVz
    by_cases hneg : n < 0
    · have HY := Lib.hid (show prodT (.mk n l) = [] ++ prodL l by rw [prodT, if_pos hneg])
      have hng : ¬ (0 : Int) ≤ n := by omega
      go_enter Try.func24, Try.ntmps24
      go_upto_region 1 with fail
      rw [← HV.out]
      go_wp2_with fail
      go_loopw [3, 4] (fun v i wr => ∃ (j : Nat) (A2 : Option Addr) (c2 : Nat) (xs : List Int), j ≤ m ∧ xs = ([] : List Int) ++ prodL (l.take j) ∧ v = .slice A2 xs.length c2 ∧ i = .int .i64 j ∧ wr.ownsRow (W.heap.size + 1) 3 1 (.slice A2 xs.length c2) xs.length (xs.map (Value.int .i64)) ∧ Below W.heap.size W wr ∧ wr.heap[W.heap.size]? = some (.cells #[.int .i64 n, .slice A m cap] 43 (0, 0))) (fun _ i _ => m - (intOf i).toNat)
      case atStart => exact ⟨0, none, 0, ([] : List Int), Nat.zero_le _, by rw [List.take_zero, prodL]; rfl, rfl, rfl, World.ownsRow_nil _ _ _ _, HB0.out, HX0.out⟩
      case round =>
        obtain ⟨j, A2, c2, xs, hj, hxs, rfl, rfl, ho, hbel, hbx⟩ := hrel
        have HXS := Lib.hid hxs
        have HBL := Lib.hid hbel
        have HBX := Lib.hid hbx
        have HO := Lib.hid ho
        have s1 := cell_of_row _ _ 1 _ _ (0, 0) hbx
        have hle : xs.length ≤ 1099511627776 := by
          have h1 := prods_few (l.take j)
          have h2 := nodesL_le l j
          have h3 : (([] : List Int)).length ≤ 1 := by simp
          rw [hxs, List.length_append]
          omega
        clear hbel hbx hxs ho
        by_cases hjm : j < m
        · have hjm2 : (j : Int) < (m : Int) := by omega
          have hjl : j < l.length := by rw [← HMM.out]; exact hjm
          obtain ⟨eA, hr, hPr⟩ := HA.out (by omega)
          subst eA
          obtain ⟨⟨p0, p1⟩, hk9⟩ := HC.out j hjl
          obtain ⟨kn, kA, km, kc, f1, f2⟩ := hk9.form
          rw [f1] at p0
          rw [f2] at p1
          rw [f1, f2] at hk9
          have y0 := (HBL.out.cell (p := ⟨r, j * 2, none⟩) hr).trans p0
          have y1 := (HBL.out.cell (p := ⟨r, j * 2 + 1, none⟩) hr).trans p1
          have hnt := nodesL_take l j hjl
          have hnl := nodesL_le l (j + 1)
          obtain ⟨zs, hzs⟩ : ∃ zs, zs = prodT l[j] := ⟨_, rfl⟩
          have hkc := HIH.out l[j] (List.getElem_mem hjl) (by omega) P wr _ _ (hk9.under HBL.out)
          have hzl := prod_few l[j]
          have htk := prodL_more l j hjl
          rw [← hzs] at hkc hzl htk
          have htk2 : ([] : List Int) ++ prodL (l.take (j + 1)) = xs ++ zs := by rw [htk, ← List.append_assoc, ← HXS.out]
          have hsum : xs.length + zs.length ≤ 8796093022208 := by omega
          have HKC := Lib.hid hkc
          have HTK := Lib.hid htk2
          clear hk9 p0 p1 f1 f2 htk htk2 hkc hzs hzl hnt hnl
          go_wp2_with fail
          refine HKC.out.mono ?_
          rintro e w5 ⟨v5, rfl, hi5, hb5⟩
          obtain ⟨A5, c5, rfl⟩ := hi5.form
          have HB5 := Lib.hid (HBL.out.trans (hb5.mono HBL.out.size))
          have HBX5 := Lib.hid ((hb5.block _ (Gn.heap_lt HBX.out)).trans HBX.out)
          have HO5 := Lib.hid (own_of_block HO.out fun g e => hb5.block g (Gn.own_lt HO.out g e))
          have HI5 := Lib.hid hi5
          have hz5 : W.heap.size + 1 ≤ w5.heap.size := Gn.heap_lt HBX5.out
          clear hb5 hi5
          go_wp2_with (at_builtin; refine wpList_append_ints _ rfl _ _ rfl (W.heap.size + 1) (.slice A2 xs.length c2) xs.length _ rfl HO5.out _ zs _ rfl HI5.out hsum hz5 ?_; intro v6 w6 ho6 hg6 hat6; have HO6 := Lib.hid ho6; have HG6 := Lib.hid hg6; clear ho6 hg6 hat6)
          have h9 : w6.ownsRow (W.heap.size + 1) 3 1 v6 (xs ++ zs).length ((xs ++ zs).map (Value.int .i64)) := by rw [List.length_append, List.map_append]; exact HO6.out
          obtain ⟨A6, c6, rfl⟩ := Gn.slice_of h9
          have HO9 := Lib.hid h9
          have HB6 := Lib.hid (show Below W.heap.size W w6 from Below.grown HB5.out HG6.out HB5.out.size (fun k e => by have := (own_base HO5.out e).1; omega))
          have HBX6 := Lib.hid ((HG6.out.block W.heap.size (by omega) (fun e => by have := (own_base HO5.out e.symm).1; omega)).trans HBX5.out)
          clear h9
          go_roundw
          case rel => exact ⟨j + 1, A6, c6, xs ++ zs, by omega, HTK.out.symm, rfl, by go_num, HO9.out, HB6.out, HBX6.out⟩
          case measure => simp [intOf]; omega
        · have hje : j = m := by omega
          subst hje
          have hjm2 : ¬ ((j : Nat) : Int) < ((j : Nat) : Int) := by omega
          have hx9 : xs = ([] : List Int) ++ prodL l := by rw [HXS.out, HMM.out, List.take_length]
          have HX9 := Lib.hid hx9
          clear hx9
          go_wp2_with fail
          go_ret
          refine ⟨_, rfl, ?_, HBL.out⟩
          rw [HY.out, ← HX9.out]
          exact (IntsAt.of_own HO.out).keep (Nat.le_refl _) fun r hr _ => ⟨by omega, fun _ => rfl⟩
    · have HY := Lib.hid (show prodT (.mk n l) = [n] ++ prodL l by rw [prodT, if_neg hneg])
      have hng : (0 : Int) ≤ n := by omega
      have HB1 := Lib.hid (HB0.out.alloc HB0.out.size (.cells #[.int .i64 n] 3))
      have HX1 := Lib.hid ((heap_alloc_old V (.cells #[.int .i64 n] 3) (by have := HVZ.out; omega)).trans HX0.out)
      have HOW := Lib.hid (show (V.alloc (.cells #[.int .i64 n] 3)).ownsRow (W.heap.size + 1) 3 1 (.slice (some ⟨V.heap.size, 0, none⟩) [n].length 1) [n].length ([n].map (Value.int .i64)) from
        ⟨by simp, .inr ⟨V.heap.size, 1, #[.int .i64 n], rfl, by have := HVZ.out; omega, heap_alloc_new _ _, by simp, by unfold maxLen; omega, by simp, by simp⟩⟩)
      go_enter Try.func24, Try.ntmps24
      go_upto_region 1 with fail
      rw [← HV.out]
      go_wp2_with fail
      go_loopw [3, 4] (fun v i wr => ∃ (j : Nat) (A2 : Option Addr) (c2 : Nat) (xs : List Int), j ≤ m ∧ xs = [n] ++ prodL (l.take j) ∧ v = .slice A2 xs.length c2 ∧ i = .int .i64 j ∧ wr.ownsRow (W.heap.size + 1) 3 1 (.slice A2 xs.length c2) xs.length (xs.map (Value.int .i64)) ∧ Below W.heap.size W wr ∧ wr.heap[W.heap.size]? = some (.cells #[.int .i64 n, .slice A m cap] 43 (0, 0))) (fun _ i _ => m - (intOf i).toNat)
      case atStart => exact ⟨0, some ⟨V.heap.size, 0, none⟩, 1, [n], Nat.zero_le _, by rw [List.take_zero, prodL]; rfl, rfl, rfl, HOW.out, HB1.out, HX1.out⟩
      case round =>
        obtain ⟨j, A2, c2, xs, hj, hxs, rfl, rfl, ho, hbel, hbx⟩ := hrel
        have HXS := Lib.hid hxs
        have HBL := Lib.hid hbel
        have HBX := Lib.hid hbx
        have HO := Lib.hid ho
        have s1 := cell_of_row _ _ 1 _ _ (0, 0) hbx
        have hle : xs.length ≤ 1099511627776 := by
          have h1 := prods_few (l.take j)
          have h2 := nodesL_le l j
          have h3 : ([n]).length ≤ 1 := by simp
          rw [hxs, List.length_append]
          omega
        clear hbel hbx hxs ho
        by_cases hjm : j < m
        · have hjm2 : (j : Int) < (m : Int) := by omega
          have hjl : j < l.length := by rw [← HMM.out]; exact hjm
          obtain ⟨eA, hr, hPr⟩ := HA.out (by omega)
          subst eA
          obtain ⟨⟨p0, p1⟩, hk9⟩ := HC.out j hjl
          obtain ⟨kn, kA, km, kc, f1, f2⟩ := hk9.form
          rw [f1] at p0
          rw [f2] at p1
          rw [f1, f2] at hk9
          have y0 := (HBL.out.cell (p := ⟨r, j * 2, none⟩) hr).trans p0
          have y1 := (HBL.out.cell (p := ⟨r, j * 2 + 1, none⟩) hr).trans p1
          have hnt := nodesL_take l j hjl
          have hnl := nodesL_le l (j + 1)
          obtain ⟨zs, hzs⟩ : ∃ zs, zs = prodT l[j] := ⟨_, rfl⟩
          have hkc := HIH.out l[j] (List.getElem_mem hjl) (by omega) P wr _ _ (hk9.under HBL.out)
          have hzl := prod_few l[j]
          have htk := prodL_more l j hjl
          rw [← hzs] at hkc hzl htk
          have htk2 : [n] ++ prodL (l.take (j + 1)) = xs ++ zs := by rw [htk, ← List.append_assoc, ← HXS.out]
          have hsum : xs.length + zs.length ≤ 8796093022208 := by omega
          have HKC := Lib.hid hkc
          have HTK := Lib.hid htk2
          clear hk9 p0 p1 f1 f2 htk htk2 hkc hzs hzl hnt hnl
          go_wp2_with fail
          refine HKC.out.mono ?_
          rintro e w5 ⟨v5, rfl, hi5, hb5⟩
          obtain ⟨A5, c5, rfl⟩ := hi5.form
          have HB5 := Lib.hid (HBL.out.trans (hb5.mono HBL.out.size))
          have HBX5 := Lib.hid ((hb5.block _ (Gn.heap_lt HBX.out)).trans HBX.out)
          have HO5 := Lib.hid (own_of_block HO.out fun g e => hb5.block g (Gn.own_lt HO.out g e))
          have HI5 := Lib.hid hi5
          have hz5 : W.heap.size + 1 ≤ w5.heap.size := Gn.heap_lt HBX5.out
          clear hb5 hi5
          go_wp2_with (at_builtin; refine wpList_append_ints _ rfl _ _ rfl (W.heap.size + 1) (.slice A2 xs.length c2) xs.length _ rfl HO5.out _ zs _ rfl HI5.out hsum hz5 ?_; intro v6 w6 ho6 hg6 hat6; have HO6 := Lib.hid ho6; have HG6 := Lib.hid hg6; clear ho6 hg6 hat6)
          have h9 : w6.ownsRow (W.heap.size + 1) 3 1 v6 (xs ++ zs).length ((xs ++ zs).map (Value.int .i64)) := by rw [List.length_append, List.map_append]; exact HO6.out
          obtain ⟨A6, c6, rfl⟩ := Gn.slice_of h9
          have HO9 := Lib.hid h9
          have HB6 := Lib.hid (show Below W.heap.size W w6 from Below.grown HB5.out HG6.out HB5.out.size (fun k e => by have := (own_base HO5.out e).1; omega))
          have HBX6 := Lib.hid ((HG6.out.block W.heap.size (by omega) (fun e => by have := (own_base HO5.out e.symm).1; omega)).trans HBX5.out)
          clear h9
          go_roundw
          case rel => exact ⟨j + 1, A6, c6, xs ++ zs, by omega, HTK.out.symm, rfl, by go_num, HO9.out, HB6.out, HBX6.out⟩
          case measure => simp [intOf]; omega
        · have hje : j = m := by omega
          subst hje
          have hjm2 : ¬ ((j : Nat) : Int) < ((j : Nat) : Int) := by omega
          have hx9 : xs = [n] ++ prodL l := by rw [HXS.out, HMM.out, List.take_length]
          have HX9 := Lib.hid hx9
          clear hx9
          go_wp2_with fail
          go_ret
          refine ⟨_, rfl, ?_, HBL.out⟩
          rw [HY.out, ← HX9.out]
          exact (IntsAt.of_own HO.out).keep (Nat.le_refl _) fun r hr _ => ⟨by omega, fun _ => rfl⟩
end Go.Proofs.Ytdknlifpoihnmaa.Tr

namespace Go.Proofs.Ytdknlifpoihnmaa.Tr
open Go.RowKit
open Oct (pb bs rput_any)
set_option maxRecDepth 100000
set_option linter.unusedSimpArgs false
set_option linter.unusedVariables false
theorem put_few (t : Tr) : (putT t).length ≤ 9 * nodesT t := by
  have h := pbs9 (preT t)
  rw [preT_len, ← put_pre] at h
  exact h
theorem puts_few (l : List Tr) : (putL l).length ≤ 9 * nodesL l := by
  have h := pbs9 (preL l)
  rw [preL_len, ← put_preL] at h
  exact h
theorem putL_more (l : List Tr) (i : Nat) (h : i < l.length) : putL (l.take (i + 1)) = putL (l.take i) ++ putT l[i] := by rw [List.take_succ_eq_append_getElem h, putL_snoc]
theorem bs_both (a b : ByteArray) : bs (a ++ b) = bs a ++ bs b := by simp [bs, ByteArray.data_append]
theorem bs_size (a : ByteArray) : (bs a).length = a.size := rfl
set_option maxHeartbeats 4000000 in
theorem rputt_any {t : Tr} (hs : SmT t) : nodesT t ≤ 1099511627776 → ∀ (P : Nat → Prop) (W : World) (x y : Value), TrAt P W t x y → Calls Try.prog 26 #[.agg #[x, y]] W fun e w' => ∃ s : ByteArray, e = .returned (.string s) ∧ bs s = putT t ∧ Below W.heap.size W w' := by
  induction hs with
  | mk n l hlen hl ih =>
    intro hn P W x y h
    obtain ⟨rfl, A, cap, r, a, b, rfl, hcap, hA, hc⟩ := h.open_
    obtain ⟨m, hm⟩ : ∃ m, m = l.length := ⟨_, rfl⟩
    rw [← hm] at hA hcap hlen ⊢
    obtain ⟨V, hV⟩ : ∃ V, V = W.alloc (.cells #[.int .i64 n, .slice A m cap] 43) := ⟨_, rfl⟩
    have hb0 : Below W.heap.size W V := by rw [hV]; exact (Below.refl _ W).alloc (Nat.le_refl _) _
    have hx0 : V.heap[W.heap.size]? = some (.cells #[.int .i64 n, .slice A m cap] 43 (0, 0)) := by rw [hV]; exact heap_alloc_new W _
    rw [nodesT] at hn
    have HMM := Lib.hid hm
    have HA := Lib.hid hA
    have HC := Lib.hid hc
    have HIH := Lib.hid ih
    have HV := Lib.hid hV
    have HB0 := Lib.hid hb0
    have HX0 := Lib.hid hx0
    have HRP := Lib.hid (rput_any n V)
    have q0 := cell_of_row _ _ 0 _ _ (0, 0) hx0
    clear hm hA hc ih hl h hV hb0 hx0
    obtain ⟨s0, hs0⟩ : ∃ s0 : ByteArray, s0 = ⟨(pb n).toArray⟩ := ⟨_, rfl⟩
    rw [← hs0] at HRP
    have HS0 := Lib.hid (show bs s0 = pb n by rw [hs0])
    clear hs0
    go_enter Try.func26, Try.ntmps26
    go_upto_region 1 with fail
    rw [← HV.out]
    go_wp2_with fail
    refine HRP.out.mono ?_
    rintro e w1 ⟨rfl, b1⟩
    have HX1 := Lib.hid ((b1.block _ (Gn.heap_lt HX0.out)).trans HX0.out)
    have HB1 := Lib.hid (HB0.out.trans (b1.mono HB0.out.size))
    clear b1 q0
    go_wp2_with fail
    go_loopw [3, 4] (fun v i wr => ∃ (j : Nat) (s : ByteArray), j ≤ m ∧ bs s = pb n ++ putL (l.take j) ∧ v = .string s ∧ i = .int .i64 j ∧ Below W.heap.size W wr ∧ wr.heap[W.heap.size]? = some (.cells #[.int .i64 n, .slice A m cap] 43 (0, 0))) (fun _ i _ => m - (intOf i).toNat)
    case atStart => exact ⟨0, s0, Nat.zero_le _, by rw [List.take_zero, putL, List.append_nil]; exact HS0.out, rfl, rfl, HB1.out, HX1.out⟩
    case round =>
      obtain ⟨j, s, hj, hs, rfl, rfl, hbel, hbx⟩ := hrel
      have HBL := Lib.hid hbel
      have HBX := Lib.hid hbx
      have HS := Lib.hid hs
      have s1 := cell_of_row _ _ 1 _ _ (0, 0) hbx
      have hle : s.size ≤ 9 * 1099511627776 := by
        have h1 := puts_few (l.take j)
        have h2 := nodesL_le l j
        have h3 : (pb n).length ≤ 9 := by have := pbs9 [n]; simpa using this
        rw [← bs_size, hs, List.length_append]
        omega
      clear hbel hbx hs
      by_cases hjm : j < m
      · have hjm2 : (j : Int) < (m : Int) := by omega
        have hjl : j < l.length := by rw [← HMM.out]; exact hjm
        obtain ⟨eA, hr, hPr⟩ := HA.out (by omega)
        subst eA
        obtain ⟨⟨p0, p1⟩, hk9⟩ := HC.out j hjl
        obtain ⟨kn, kA, km, kc, f1, f2⟩ := hk9.form
        rw [f1] at p0
        rw [f2] at p1
        rw [f1, f2] at hk9
        have y0 := (HBL.out.cell (p := ⟨r, j * 2, none⟩) hr).trans p0
        have y1 := (HBL.out.cell (p := ⟨r, j * 2 + 1, none⟩) hr).trans p1
        have hnt := nodesL_take l j hjl
        have hnl := nodesL_le l (j + 1)
        have hkc := HIH.out l[j] (List.getElem_mem hjl) (by omega) P wr _ _ (hk9.under HBL.out)
        have hzl := put_few l[j]
        have hzl2 : (putT l[j]).length ≤ 9 * 1099511627776 := by omega
        have HZL := Lib.hid hzl2
        have HTK := Lib.hid (putL_more l j hjl)
        have HKC := Lib.hid hkc
        clear hk9 p0 p1 f1 f2 hkc hzl hzl2 hnt hnl
        go_wp2_with fail
        refine HKC.out.mono ?_
        rintro e w5 ⟨z, rfl, hz, hb5⟩
        have hzs : z.size ≤ 9 * 1099511627776 := by rw [← bs_size, hz]; exact HZL.out
        have hsum : ¬ 9223372036854775807 < s.size + z.size := by omega
        have HZ := Lib.hid hz
        have HB5 := Lib.hid (HBL.out.trans (hb5.mono HBL.out.size))
        have HBX5 := Lib.hid ((hb5.block _ (Gn.heap_lt HBX.out)).trans HBX.out)
        clear hb5 hz
        go_wp2_with fail
        go_roundw
        case rel => exact ⟨j + 1, s ++ z, by omega, by rw [bs_both, HS.out, HZ.out, HTK.out, List.append_assoc], rfl, by go_num, HB5.out, HBX5.out⟩
        case measure => simp [intOf]; omega
      · have hje : j = m := by omega
        subst hje
        have hjm2 : ¬ ((j : Nat) : Int) < ((j : Nat) : Int) := by omega
        have HE := Lib.hid (show bs s = putT (.mk n l) by rw [HS.out, putT, HMM.out, List.take_length])
        go_wp2_with fail
        go_ret
        exact ⟨s, rfl, HE.out, HBL.out⟩
end Go.Proofs.Ytdknlifpoihnmaa.Tr
