/-
  Layer 14: the walk of Yield.
-/
import Derived.Test.YtdknlifpoihnmaaTrPut
namespace Go.Proofs.Ytdknlifpoihnmaa.Tr
open Go.RowKit
open Gn (Asks)
open Fx (IntsAt Prd PG own_of_block own_base)
set_option maxRecDepth 100000
set_option linter.unusedSimpArgs false
set_option linter.unusedVariables false

theorem turn1_any (n : Int) (W : World) (hw : IntKind.i64.wrap (-1 - n) = -1 - n) : Calls Try.prog 66 #[.int .i64 n] W fun e w' => e = .returned (.int .i64 (-1 - n)) ∧ W = w' := by
  go_enter Try.func66, Try.ntmps66
  go_wp2_with fail
  go_ret
  exact ⟨by first | rfl | (simp only [hw]; rfl) | (congr 2), rfl⟩
theorem yieldL_snoc (t : Tr) : ∀ l : List Tr, yieldL (l ++ [t]) = yieldL l ++ yieldT t
  | [] => by simp [yieldL]
  | a :: l => by rw [List.cons_append, yieldL, yieldL, yieldL_snoc t l, List.append_assoc]
theorem yieldL_take (l : List Tr) (i : Nat) (h : i < l.length) : yieldL (l.take (i + 1)) = yieldL (l.take i) ++ yieldT l[i] := by rw [List.take_succ_eq_append_getElem h, yieldL_snoc]
mutual
theorem yield_le : ∀ t : Tr, (yieldT t).length ≤ nodesT t
  | .mk n l => by
    rw [yieldT, nodesT]
    split
    · simp
    · have := yieldL_le l; omega
theorem yieldL_le : ∀ l : List Tr, (yieldL l).length ≤ nodesL l
  | [] => Nat.le_refl _
  | a :: r => by
    rw [yieldL, nodesL, List.length_append]
    have := yield_le a
    have := yieldL_le r
    omega
end
/-- Its numbers are those of a machine. -/
def InT (t : Tr) : Prop := ∀ n ∈ preT t, n < 0 → IntKind.i64.wrap (-1 - n) = -1 - n
theorem InT.kid {n : Int} {l : List Tr} (h : InT (.mk n l)) {i : Nat} (hi : i < l.length) : InT l[i] := fun k hk => h k (by
  rw [preT]
  refine List.mem_cons_of_mem _ ?_
  have go : ∀ (l : List Tr) (i : Nat) (hi : i < l.length), k ∈ preT l[i] → k ∈ preL l := by
    intro l
    induction l with
    | nil => intro i hi; simp at hi
    | cons a r ih =>
      intro i hi hk
      rw [preL]
      cases i with
      | zero => exact List.mem_append_left _ hk
      | succ i => exact List.mem_append_right _ (ih i (by simpa using hi) hk)
  exact go l i hi hk)
set_option maxHeartbeats 8000000 in
theorem yieldg_any {t : Tr} (hs : SmT t) : ∀ (c : Nat) (acc : List Int) (W : World) (v x y : Value), InT t → W.ownsRow c 3 1 v acc.length (acc.map (Value.int .i64)) → TrAt (fun r => r < c) W t x y → c ≤ W.heap.size → acc.length + nodesT t ≤ 1099511627776 →
    Calls Try.prog 41 #[v, .agg #[x, y]] W fun e w' => ∃ v', e = .returned v' ∧ w'.ownsRow c 3 1 v' (acc ++ yieldT t).length ((acc ++ yieldT t).map (Value.int .i64)) ∧ KeepT c W w' := by
  induction hs with
  | mk n l hlen hl ih =>
    intro c acc W v x y hin hown hnd hcW hM
    obtain ⟨i0, hi0, hz0, hz1, hz2⟩ := info_parts Fx.iinfo
    obtain ⟨rfl, A, cap, r, a, bb, rfl, hcap, hA, hc⟩ := hnd.open_
    obtain ⟨m, hm⟩ : ∃ m, m = l.length := ⟨_, rfl⟩
    rw [← hm] at hA hcap hlen ⊢
    rw [nodesT] at hM
    obtain ⟨Av, cv, rfl⟩ := Gn.slice_of hown
    have HMM := Lib.hid hm
    have HA := Lib.hid hA
    have HC := Lib.hid hc
    have HIH := Lib.hid ih
    have HMB := Lib.hid hM
    have HIN := Lib.hid hin
    obtain ⟨V, hV⟩ : ∃ V, V = W.alloc (.cells #[.int .i64 n, .slice A m cap] 39) := ⟨_, rfl⟩
    have hk0 : KeepT c W V := by rw [hV]; exact KeepT.alloc W hcW _
    have hx0 : V.heap[W.heap.size]? = some (.cells #[.int .i64 n, .slice A m cap] 39 (0, 0)) := by rw [hV]; exact heap_alloc_new W _
    have hcV : c ≤ V.heap.size := Nat.le_trans hcW hk0.1.size
    have hown0 : V.ownsRow c 3 1 (.slice Av acc.length cv) acc.length (acc.map (Value.int .i64)) := by rw [hV]; exact hown.alloc _
    obtain ⟨la, hla⟩ : ∃ la, la = acc.length := ⟨_, rfl⟩
    have hlab : la ≤ 1099511627776 := by omega
    have HV := Lib.hid hV
    have HK0 := Lib.hid hk0
    have HX0 := Lib.hid hx0
    have HO0 := Lib.hid hown0
    have HLA := Lib.hid hla
    have HIH2 := Lib.hid hl
    rw [← hla]
    clear hm hA hc ih hl hnd hM hk0 hV hx0 hown hown0 hla hin
    have q0 := cell_of_row _ _ 0 _ _ (0, 0) HX0.out
    have q1 := cell_of_row _ _ 1 _ _ (0, 0) HX0.out
    by_cases hn : n < 0
    · have HY := Lib.hid (show yieldT (.mk n l) = [-1 - n] by rw [yieldT, if_pos hn])
      have HT := Lib.hid (fun w => turn1_any n w (HIN.out n (by rw [preT]; exact List.mem_cons_self) hn))
      go_enter Try.func41, Try.ntmps41
      go_upto_region 1 with fail
      rw [← HV.out]
      go_wp2_with (first | (go_at_call 66; refine (HT.out _).mono ?_; rintro e w1 ⟨rfl, rfl⟩) | (at_builtin; refine wpList_append_lies _ rfl _ _ 22 rfl c 3 i0 (.int .i64 0) 1 8 Try.underlying22 hi0 hz0 hz1 hz2 rfl (by decide) (.slice Av la cv) la (acc.map (Value.int .i64)) rfl (by rw [HLA.out]; exact HO0.out.alloc _) ⟨V.heap.size, 0, none⟩ 1 1 [.int .i64 (-1 - n)] rfl rfl (Gn.row_new _ [.int .i64 (-1 - n)] _ _ rfl) (by simp [Value.oneCell']) (by decide) (by unfold maxLen; omega) (by omega) (by simp; omega) _ rfl ?_; intro gq cap4 w4 hown4 hgrow4 hat4 hlt4; have HO4 := Lib.hid hown4; have HG4 := Lib.hid hgrow4; clear hown4 hgrow4 hat4 hlt4))
      go_ret
      have hown0 : V.ownsRow c 3 1 (.slice Av la cv) la (acc.map (Value.int .i64)) := by rw [HLA.out]; exact HO0.out
      refine ⟨_, rfl, ?_, HK0.out.trans ⟨?_, fun k cs fr e => ?_⟩⟩
      · rw [HY.out, List.length_append, List.length_singleton, List.map_append, List.map_singleton, ← HLA.out]
        exact HO4.out
      · exact Below.grown ((Below.refl c V).alloc hcV _) HG4.out (by simp; omega) (fun k e => (own_base hown0 e).1)
      · refine (HG4.out.block k (by have := Gn.heap_lt e; simp; omega) (fun e2 => ?_)).trans ((heap_alloc_old V _ (Gn.heap_lt e)).trans e)
        obtain ⟨cur, e3⟩ := own_cells hown0 e2.symm
        rw [e] at e3
        injection e3 with e3
        injection e3 with _ e3 _
        cases e3
    have HY := Lib.hid (show yieldT (.mk n l) = yieldL l by rw [yieldT, if_neg hn])
    go_enter Try.func41, Try.ntmps41
    go_upto_region 1 with fail
    rw [← HV.out]
    go_wp2_with fail
    go_loopw [0, 19] (fun v i wr => ∃ j : Nat, j ≤ m ∧ i = .int .i64 j ∧ wr.ownsRow c 3 1 v (acc ++ yieldL (l.take j)).length ((acc ++ yieldL (l.take j)).map (Value.int .i64)) ∧ KeepT c W wr) (fun _ i _ => m - (intOf i).toNat)
    case atStart => exact ⟨0, Nat.zero_le _, rfl, by rw [List.take_zero, yieldL, List.append_nil, HLA.out]; exact HO0.out, HK0.out⟩
    case round =>
      obtain ⟨j, hj, rfl, ho2, hk2⟩ := hrel
      have HO2 := Lib.hid ho2
      obtain ⟨A2, c2, rfl⟩ := Gn.slice_of ho2
      have HK2 := Lib.hid hk2
      clear ho2
      by_cases hjm : j < m
      · have hjm2 : (j : Int) < (m : Int) := by omega
        have hjl : j < l.length := by rw [← HMM.out]; exact hjm
        obtain ⟨eA, hr, hPr⟩ := HA.out (by omega)
        subst eA
        obtain ⟨⟨p0, p1⟩, hk⟩ := HC.out j hjl
        obtain ⟨kn, kA, km, kc, f1, f2⟩ := hk.form
        rw [f1] at p0
        rw [f2] at p1
        rw [f1, f2] at hk
        have y0 := (hk2.1.cell (p := ⟨r, j * 2, none⟩) hPr).trans p0
        have y1 := (hk2.1.cell (p := ⟨r, j * 2 + 1, none⟩) hPr).trans p1
        have hcw : c ≤ wr.heap.size := Nat.le_trans hcW hk2.1.size
        have hln := nodesL_take l j hjl
        have hle := nodesL_le l (j + 1)
        have hpl := yieldL_le (l.take j)
        have hbd : (acc ++ yieldL (l.take j)).length + nodesT l[j] ≤ 1099511627776 := by
          have := HMB.out
          rw [List.length_append]
          omega
        have HKJ := Lib.hid (fun o => HIH.out l[j] (List.getElem_mem hjl) c (acc ++ yieldL (l.take j)) (wr.alloc o) (.slice A2 (acc ++ yieldL (l.take j)).length c2) _ _ (HIN.out.kid hjl) (HO2.out.alloc o) (hk.kept (hk2.trans (KeepT.alloc wr hcw o))) (by simp; omega) hbd)
        have hsn := Lib.hid (show (acc ++ yieldL (l.take j)) ++ yieldT l[j] = acc ++ yieldL (l.take (j + 1)) by rw [yieldL_take l j hjl]; simp)
        have HCW := Lib.hid hcw
        obtain ⟨ll, hll⟩ : ∃ ll, ll = (acc ++ yieldL (l.take j)).length := ⟨_, rfl⟩
        rw [← hll] at HKJ ⊢
        clear hk p0 p1 f1 f2 hln hle hpl hbd hcw hk2 hll
        go_wp2_with (go_at_call 41; refine (HKJ.out _).mono ?_; rintro e w3 ⟨v3, rfl, ho3, hk3⟩)
        go_roundw
        case rel => exact ⟨j + 1, by omega, by simp, by rw [← hsn.out]; exact ho3, HK2.out.trans ((KeepT.alloc wr HCW.out _).trans hk3)⟩
        case measure => simp [intOf]; omega
      · have hje : m = j := by omega
        subst hje
        have hjm2 : ¬ ((m : Nat) : Int) < ((m : Nat) : Int) := by omega
        obtain ⟨ll, hll⟩ : ∃ ll, ll = (acc ++ yieldL (l.take m)).length := ⟨_, rfl⟩
        have HLL := Lib.hid hll
        rw [← hll]
        clear hk2 hll
        go_wp2_with fail
        go_ret
        refine ⟨_, rfl, ?_, HK2.out⟩
        have h9 := HO2.out
        rw [← HLL.out] at h9
        rw [HY.out]
        have e : l.take m = l := by rw [HMM.out, List.take_length]
        rw [e] at h9
        have e2 : ll = (acc ++ yieldL l).length := by rw [HLL.out, e]
        rw [List.map_append] at h9
        have e3 : acc.length + (yieldL l).length = ll := by rw [e2, List.length_append]
        show wr.ownsRow c 3 1 (.slice A2 ll c2) _ _
        first | (rw [e3]; exact h9) | (rw [List.map_append, List.length_append, e3]; exact h9)
theorem yieldt_any {t : Tr} (hs : SmT t) (hin : InT t) (hn : nodesT t ≤ 1099511627776) (P : Nat → Prop) (W : World) (x y : Value) (h : TrAt P W t x y) :
    Calls Try.prog 19 #[.agg #[x, y]] W fun e w' => ∃ v, e = .returned v ∧ IntsAt (fun r => W.heap.size ≤ r) w' (yieldT t) v ∧ Below W.heap.size W w' := by
  have h1 : TrAt (fun r => r < W.heap.size) W t x y := h.keep (Nat.le_refl _) fun r _ hr => ⟨hr, fun _ => rfl⟩
  obtain ⟨n, A, m, cap, rfl, rfl⟩ := h.form
  have hb0 : Below W.heap.size W (W.alloc (.cells #[.int .i64 n, .slice A m cap] 39)) := (Below.refl _ W).alloc (Nat.le_refl _) _
  have HE := Lib.hid (yieldg_any hs W.heap.size [] (W.alloc (.cells #[.int .i64 n, .slice A m cap] 39)) (.slice none 0 0) _ _ hin (World.ownsRow_nil _ _ _ _) (h1.keep hb0.size fun r hr _ => ⟨hr, fun j => hb0.cell (p := ⟨r, j, none⟩) hr⟩) hb0.size (by simpa using hn))
  have HB0 := Lib.hid hb0
  clear h h1 hb0 hs hn hin
  go_enter Try.func19, Try.ntmps19
  go_wp2_with (go_at_call 41; refine HE.out.mono ?_; rintro e w1 ⟨v, rfl, ho, hk⟩)
  go_ret
  rw [List.nil_append] at ho
  exact ⟨_, rfl, IntsAt.of_own (e := 3) (base := W.heap.size) ho, HB0.out.trans hk.1⟩
end Go.Proofs.Ytdknlifpoihnmaa.Tr
