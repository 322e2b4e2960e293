/-
  Layer 14: the walk of each.
-/
import Derived.Test.YtdknlifpoihnmaaTrYa
namespace Go.Proofs.Ytdknlifpoihnmaa.Tr
open Go.RowKit
open Gn (Asks)
open Fx (IntsAt Prd PG)
set_option maxRecDepth 100000
set_option linter.unusedSimpArgs false
set_option linter.unusedVariables false

mutual
/-- All the numbers of a tree, each node's ahead of its kids'. -/
def preT : Tr → List Int
  | .mk n l => n :: preL l
def preL : List Tr → List Int
  | [] => []
  | a :: r => preT a ++ preL r
end
mutual
theorem preT_len : ∀ t : Tr, (preT t).length = nodesT t
  | .mk n l => by rw [preT, nodesT, List.length_cons, preL_len]
theorem preL_len : ∀ l : List Tr, (preL l).length = nodesL l
  | [] => rfl
  | a :: r => by rw [preL, nodesL, List.length_append, preT_len, preL_len]
end
theorem preL_snoc (t : Tr) : ∀ l : List Tr, preL (l ++ [t]) = preL l ++ preT t
  | [] => by simp [preL]
  | a :: l => by rw [List.cons_append, preL, preL, preL_snoc t l, List.append_assoc]
theorem preL_take (l : List Tr) (i : Nat) (h : i < l.length) : preL (l.take (i + 1)) = preL (l.take i) ++ preT l[i] := by rw [List.take_succ_eq_append_getElem h, preL_snoc]
mutual
theorem prod_pre : ∀ t : Tr, prodT t = (preT t).filter (fun n => !decide (n < 0))
  | .mk n l => by
    rw [prodT, preT, prod_preL, List.filter_cons]
    by_cases h : n < 0 <;> simp [h]
theorem prod_preL : ∀ l : List Tr, prodL l = (preL l).filter (fun n => !decide (n < 0))
  | [] => rfl
  | a :: r => by rw [prodL, preL, List.filter_append, prod_pre a, prod_preL r]
end
mutual
theorem put_pre : ∀ t : Tr, putT t = (preT t).flatMap Oct.pb
  | .mk n l => by rw [putT, preT, List.flatMap_cons, put_preL]
theorem put_preL : ∀ l : List Tr, putL l = (preL l).flatMap Oct.pb
  | [] => rfl
  | a :: r => by rw [putL, preL, List.flatMap_append, put_pre a, put_preL r]
end
/-- All below c is as it was, and each box and row of trees. -/
def KeepT (c : Nat) (W W' : World) : Prop := Below c W W' ∧ ∀ (k : Nat) (cs : Array Value) (fr : Nat × Nat), W.heap[k]? = some (.cells cs 39 fr) → W'.heap[k]? = some (.cells cs 39 fr)
theorem KeepT.refl (c : Nat) (W : World) : KeepT c W W := ⟨Below.refl _ _, fun _ _ _ h => h⟩
theorem KeepT.trans {c : Nat} {A B C : World} (h : KeepT c A B) (k : KeepT c B C) : KeepT c A C := ⟨h.1.trans k.1, fun i cs fr e => k.2 i cs fr (h.2 i cs fr e)⟩
theorem KeepT.of_below {c : Nat} {W W' : World} (hc : c ≤ W.heap.size) (h : Below W.heap.size W W') : KeepT c W W' := ⟨h.mono hc, fun k cs fr e => (h.block k (Gn.heap_lt e)).trans e⟩
theorem KeepT.alloc {c : Nat} (W : World) (hc : c ≤ W.heap.size) (o : Obj) : KeepT c W (W.alloc o) := .of_below hc ((Below.refl _ W).alloc (Nat.le_refl _) o)
theorem TrAt.kept {c : Nat} {W W' : World} {t : Tr} {x y : Value} (h : TrAt (fun r => r < c) W t x y) (k : KeepT c W W') : TrAt (fun r => r < c) W' t x y :=
  h.keep k.1.size fun r hr _ => ⟨hr, fun j => k.1.cell (p := ⟨r, j, none⟩) hr⟩

set_option maxHeartbeats 4000000 in
theorem each_put (St : List Int → World → Prop) (hal : ∀ acc W o, St acc W → St acc (W.alloc o)) (c M b : Nat)
    (hdo : ∀ acc n W, St acc W → acc.length < M → c ≤ W.heap.size → Calls Try.prog 44 #[.int .i64 n, .pointer (some ⟨b, 0, none⟩)] W fun e w' => e = .returned (.tuple #[]) ∧ St (acc ++ [n]) w' ∧ KeepT c W w')
    {t : Tr} (hs : SmT t) : ∀ (acc : List Int) (W : World) (x y : Value), TrAt (fun r => r < c) W t x y → c ≤ W.heap.size → St acc W → acc.length + nodesT t ≤ M →
    Calls Try.prog 42 #[.agg #[x, y], .func (.func 44) #[] #[.pointer (some ⟨b, 0, none⟩)]] W fun e w' => e = .returned (.tuple #[]) ∧ St (acc ++ preT t) w' ∧ KeepT c W w' := by
  induction hs with
  | mk n l hlen hl ih =>
    intro acc W x y hnd hcW hst hM
    obtain ⟨rfl, A, cap, r, a, bb, rfl, hcap, hA, hc⟩ := hnd.open_
    obtain ⟨m, hm⟩ : ∃ m, m = l.length := ⟨_, rfl⟩
    rw [← hm] at hA hcap hlen ⊢
    rw [nodesT] at hM
    have HMM := Lib.hid hm
    have HA := Lib.hid hA
    have HC := Lib.hid hc
    have HIH := Lib.hid ih
    have HMB := Lib.hid hM
    have HAL := Lib.hid hal
    obtain ⟨V, hV⟩ : ∃ V, V = W.alloc (.cells #[.int .i64 n, .slice A m cap] 39) := ⟨_, rfl⟩
    have hst0 : St acc V := by rw [hV]; exact hal _ _ _ hst
    have hk0 : KeepT c W V := by rw [hV]; exact KeepT.alloc W hcW _
    have hx0 : V.heap[W.heap.size]? = some (.cells #[.int .i64 n, .slice A m cap] 39 (0, 0)) := by rw [hV]; exact heap_alloc_new W _
    have hcV : c ≤ V.heap.size := Nat.le_trans hcW hk0.1.size
    have HDO := Lib.hid (hdo acc n V hst0 (by omega) hcV)
    have HV := Lib.hid hV
    have HK0 := Lib.hid hk0
    have HX0 := Lib.hid hx0
    clear hm hA hc ih hl hnd hM hst0 hk0 hdo hal hV hst hx0
    go_enter Try.func42, Try.ntmps42
    go_upto_region 1 with fail
    rw [← HV.out]
    have q0 := cell_of_row _ _ 0 _ _ (0, 0) HX0.out
    go_upto_region 2 with (go_at_call 44; refine HDO.out.mono ?_; rintro e w1 ⟨rfl, hst1, hk1⟩)
    have hx1 := hk1.2 _ _ _ HX0.out
    have HK1 := Lib.hid (HK0.out.trans hk1)
    have HST1 := Lib.hid hst1
    have q1 := cell_of_row _ _ 1 _ _ (0, 0) hx1
    clear q0 hk1 hst1 hx1
    go_wp2_with fail
    go_loopw [13] (fun i wr => ∃ j : Nat, j ≤ m ∧ i = .int .i64 j ∧ St (acc ++ n :: preL (l.take j)) wr ∧ KeepT c W wr) (fun i _ => m - (intOf i).toNat)
    case atStart => exact ⟨0, Nat.zero_le _, rfl, by simpa [preL] using HST1.out, HK1.out⟩
    case round =>
      obtain ⟨j, hj, rfl, hst2, hk2⟩ := hrel
      have HST2 := Lib.hid hst2
      have HK2 := Lib.hid hk2
      clear hst2 q1
      by_cases hjm : j < m
      · have hjm2 : (j : Int) < (m : Int) := by omega
        have hjl : j < l.length := by rw [← HMM.out]; exact hjm
        obtain ⟨eA, hr, hPr⟩ := HA.out (by omega)
        subst eA
        obtain ⟨⟨p0, p1⟩, hk⟩ := HC.out j hjl
        obtain ⟨kn, kA, km, kc, f1, f2⟩ := hk.form
        rw [f1] at p0
        rw [f2] at p1
        rw [f1, f2] at hk
        have y0 := (hk2.1.cell (p := ⟨r, j * 2, none⟩) hPr).trans p0
        have y1 := (hk2.1.cell (p := ⟨r, j * 2 + 1, none⟩) hPr).trans p1
        have hcw : c ≤ wr.heap.size := Nat.le_trans hcW hk2.1.size
        have hln := nodesL_take l j hjl
        have hle := nodesL_le l (j + 1)
        have hpl := preL_len (l.take j)
        have hbd : (acc ++ n :: preL (l.take j)).length + nodesT l[j] ≤ M := by
          have := HMB.out
          rw [List.length_append, List.length_cons, hpl]
          omega
        have HKJ := Lib.hid (fun o => HIH.out l[j] (List.getElem_mem hjl) _ (wr.alloc o) _ _ (hk.kept (hk2.trans (KeepT.alloc wr hcw o))) (by simp; omega) (HAL.out _ _ o HST2.out) hbd)
        have hsn := Lib.hid (show (acc ++ n :: preL (l.take j)) ++ preT l[j] = acc ++ n :: preL (l.take (j + 1)) by rw [preL_take l j hjl]; simp)
        have HCW := Lib.hid hcw
        clear hk p0 p1 f1 f2 hln hle hpl hbd hcw hk2
        go_wp2_with (go_at_call 42; refine (HKJ.out _).mono ?_; rintro e w3 ⟨rfl, hst3, hk3⟩)
        go_roundw
        case rel => exact ⟨j + 1, by omega, by simp, by have := hst3; rw [hsn.out] at this; exact this, HK2.out.trans ((KeepT.alloc wr HCW.out _).trans hk3)⟩
        case measure => simp [intOf]; omega
      · have hje : m = j := by omega
        subst hje
        have hjm2 : ¬ ((m : Nat) : Int) < ((m : Nat) : Int) := by omega
        clear hk2
        go_wp2_with fail
        go_end0
        exact ⟨rfl, by have := HST2.out; rw [HMM.out, List.take_length] at this; rw [preT]; exact this, HK2.out⟩

set_option maxHeartbeats 4000000 in
theorem each_left (St : List Int → World → Prop) (hal : ∀ acc W o, St acc W → St acc (W.alloc o)) (c M b : Nat)
    (hdo : ∀ acc n W, St acc W → acc.length < M → c ≤ W.heap.size → Calls Try.prog 43 #[.int .i64 n, .pointer (some ⟨b, 0, none⟩)] W fun e w' => e = .returned (.tuple #[]) ∧ St (acc ++ [n]) w' ∧ KeepT c W w')
    {t : Tr} (hs : SmT t) : ∀ (acc : List Int) (W : World) (x y : Value), TrAt (fun r => r < c) W t x y → c ≤ W.heap.size → St acc W → acc.length + nodesT t ≤ M →
    Calls Try.prog 42 #[.agg #[x, y], .func (.func 43) #[] #[.pointer (some ⟨b, 0, none⟩)]] W fun e w' => e = .returned (.tuple #[]) ∧ St (acc ++ preT t) w' ∧ KeepT c W w' := by
  induction hs with
  | mk n l hlen hl ih =>
    intro acc W x y hnd hcW hst hM
    obtain ⟨rfl, A, cap, r, a, bb, rfl, hcap, hA, hc⟩ := hnd.open_
    obtain ⟨m, hm⟩ : ∃ m, m = l.length := ⟨_, rfl⟩
    rw [← hm] at hA hcap hlen ⊢
    rw [nodesT] at hM
    have HMM := Lib.hid hm
    have HA := Lib.hid hA
    have HC := Lib.hid hc
    have HIH := Lib.hid ih
    have HMB := Lib.hid hM
    have HAL := Lib.hid hal
    obtain ⟨V, hV⟩ : ∃ V, V = W.alloc (.cells #[.int .i64 n, .slice A m cap] 39) := ⟨_, rfl⟩
    have hst0 : St acc V := by rw [hV]; exact hal _ _ _ hst
    have hk0 : KeepT c W V := by rw [hV]; exact KeepT.alloc W hcW _
    have hx0 : V.heap[W.heap.size]? = some (.cells #[.int .i64 n, .slice A m cap] 39 (0, 0)) := by rw [hV]; exact heap_alloc_new W _
    have hcV : c ≤ V.heap.size := Nat.le_trans hcW hk0.1.size
    have HDO := Lib.hid (hdo acc n V hst0 (by omega) hcV)
    have HV := Lib.hid hV
    have HK0 := Lib.hid hk0
    have HX0 := Lib.hid hx0
    clear hm hA hc ih hl hnd hM hst0 hk0 hdo hal hV hst hx0
    go_enter Try.func42, Try.ntmps42
    go_upto_region 1 with fail
    rw [← HV.out]
    have q0 := cell_of_row _ _ 0 _ _ (0, 0) HX0.out
    go_upto_region 2 with (go_at_call 43; refine HDO.out.mono ?_; rintro e w1 ⟨rfl, hst1, hk1⟩)
    have hx1 := hk1.2 _ _ _ HX0.out
    have HK1 := Lib.hid (HK0.out.trans hk1)
    have HST1 := Lib.hid hst1
    have q1 := cell_of_row _ _ 1 _ _ (0, 0) hx1
    clear q0 hk1 hst1 hx1
    go_wp2_with fail
    go_loopw [13] (fun i wr => ∃ j : Nat, j ≤ m ∧ i = .int .i64 j ∧ St (acc ++ n :: preL (l.take j)) wr ∧ KeepT c W wr) (fun i _ => m - (intOf i).toNat)
    case atStart => exact ⟨0, Nat.zero_le _, rfl, by simpa [preL] using HST1.out, HK1.out⟩
    case round =>
      obtain ⟨j, hj, rfl, hst2, hk2⟩ := hrel
      have HST2 := Lib.hid hst2
      have HK2 := Lib.hid hk2
      clear hst2 q1
      by_cases hjm : j < m
      · have hjm2 : (j : Int) < (m : Int) := by omega
        have hjl : j < l.length := by rw [← HMM.out]; exact hjm
        obtain ⟨eA, hr, hPr⟩ := HA.out (by omega)
        subst eA
        obtain ⟨⟨p0, p1⟩, hk⟩ := HC.out j hjl
        obtain ⟨kn, kA, km, kc, f1, f2⟩ := hk.form
        rw [f1] at p0
        rw [f2] at p1
        rw [f1, f2] at hk
        have y0 := (hk2.1.cell (p := ⟨r, j * 2, none⟩) hPr).trans p0
        have y1 := (hk2.1.cell (p := ⟨r, j * 2 + 1, none⟩) hPr).trans p1
        have hcw : c ≤ wr.heap.size := Nat.le_trans hcW hk2.1.size
        have hln := nodesL_take l j hjl
        have hle := nodesL_le l (j + 1)
        have hpl := preL_len (l.take j)
        have hbd : (acc ++ n :: preL (l.take j)).length + nodesT l[j] ≤ M := by
          have := HMB.out
          rw [List.length_append, List.length_cons, hpl]
          omega
        have HKJ := Lib.hid (fun o => HIH.out l[j] (List.getElem_mem hjl) _ (wr.alloc o) _ _ (hk.kept (hk2.trans (KeepT.alloc wr hcw o))) (by simp; omega) (HAL.out _ _ o HST2.out) hbd)
        have hsn := Lib.hid (show (acc ++ n :: preL (l.take j)) ++ preT l[j] = acc ++ n :: preL (l.take (j + 1)) by rw [preL_take l j hjl]; simp)
        have HCW := Lib.hid hcw
        clear hk p0 p1 f1 f2 hln hle hpl hbd hcw hk2
        go_wp2_with (go_at_call 42; refine (HKJ.out _).mono ?_; rintro e w3 ⟨rfl, hst3, hk3⟩)
        go_roundw
        case rel => exact ⟨j + 1, by omega, by simp, by have := hst3; rw [hsn.out] at this; exact this, HK2.out.trans ((KeepT.alloc wr HCW.out _).trans hk3)⟩
        case measure => simp [intOf]; omega
      · have hje : m = j := by omega
        subst hje
        have hjm2 : ¬ ((m : Nat) : Int) < ((m : Nat) : Int) := by omega
        clear hk2
        go_wp2_with fail
        go_end0
        exact ⟨rfl, by have := HST2.out; rw [HMM.out, List.take_length] at this; rw [preT]; exact this, HK2.out⟩
end Go.Proofs.Ytdknlifpoihnmaa.Tr
