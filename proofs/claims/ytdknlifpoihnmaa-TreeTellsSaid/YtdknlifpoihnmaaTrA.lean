/-
  Layer 14: derivation trees in memory; the walk of Size.
-/
import Derived.Test.YtdknlifpoihnmaaFxSound
import Derived.Test.YtdknlifpoihnmaaFxOwn
import Derived.BigQuiet
import Derived.Deep.QuietTactic
namespace Go.Proofs.Ytdknlifpoihnmaa.Tr
open Go.RowKit
open Fx (IntsAt StrsAt Prd PG PrdsAt PgAt)
set_option maxRecDepth 100000
set_option linter.unusedSimpArgs false
set_option linter.unusedVariables false

inductive Tr
  | mk (prod : Int) (kids : List Tr)
/-- This value reads as this tree. -/
inductive TrAt (P : Nat → Prop) (W : World) : Tr → Value → Value → Prop
  | mk (n : Int) (kids : List Tr) (A : Option Addr) (cap r : Nat) (a b : Nat → Value)
      (hA : 0 < kids.length → A = some ⟨r, 0, none⟩ ∧ r < W.heap.size ∧ P r) (hcap : kids.length ≤ cap)
      (hc : ∀ i, i < kids.length → W.cell? ⟨r, i * 2, none⟩ = some (a i) ∧ W.cell? ⟨r, i * 2 + 1, none⟩ = some (b i))
      (hk : ∀ (i : Nat) (h : i < kids.length), TrAt P W kids[i] (a i) (b i)) :
      TrAt P W (.mk n kids) (.int .i64 n) (.slice A kids.length cap)
theorem TrAt.keep {P Q : Nat → Prop} {W W' : World} {t : Tr} {x y : Value} (h : TrAt P W t x y) (hs : W.heap.size ≤ W'.heap.size) (hq : ∀ r, P r → r < W.heap.size → Q r ∧ ∀ j, W'.cell? ⟨r, j, none⟩ = W.cell? ⟨r, j, none⟩) : TrAt Q W' t x y := by
  induction h with
  | mk n kids A cap r a b hA hcap hc hk ih =>
    refine .mk n kids A cap r a b (fun h0 => ?_) hcap (fun i hi => ?_) ih
    · obtain ⟨h1, h2, h3⟩ := hA h0
      exact ⟨h1, by omega, (hq r h3 h2).1⟩
    · obtain ⟨h1, h2, h3⟩ := hA (by omega)
      rw [(hq r h3 h2).2, (hq r h3 h2).2]
      exact hc i hi
theorem TrAt.under {P : Nat → Prop} {W W' : World} {t : Tr} {x y : Value} (h : TrAt P W t x y) (b : Below W.heap.size W W') : TrAt P W' t x y :=
  h.keep b.size fun r hp hr => ⟨hp, fun j => b.cell (p := ⟨r, j, none⟩) hr⟩
theorem TrAt.form {P : Nat → Prop} {W : World} {t : Tr} {x y : Value} (h : TrAt P W t x y) : ∃ (n : Int) (A : Option Addr) (m cap : Nat), x = .int .i64 n ∧ y = .slice A m cap := by
  cases h with
  | mk n kids A cap r a b => exact ⟨n, A, _, cap, rfl, rfl⟩
/-- A row of trees. -/
def TrsAt (P : Nat → Prop) (W : World) (l : List Tr) (v : Value) : Prop :=
  ∃ (A : Option Addr) (cap r : Nat) (a b : Nat → Value), v = .slice A l.length cap ∧ l.length ≤ cap ∧ (0 < l.length → A = some ⟨r, 0, none⟩ ∧ r < W.heap.size ∧ P r) ∧
    ∀ (i : Nat) (h : i < l.length), (W.cell? ⟨r, i * 2, none⟩ = some (a i) ∧ W.cell? ⟨r, i * 2 + 1, none⟩ = some (b i)) ∧ TrAt P W l[i] (a i) (b i)
theorem TrAt.open_ {P : Nat → Prop} {W : World} {n : Int} {l : List Tr} {x y : Value} (h : TrAt P W (.mk n l) x y) : x = .int .i64 n ∧ TrsAt P W l y := by
  cases h with
  | mk n kids A cap r a b hA hcap hc hk => exact ⟨rfl, A, cap, r, a, b, rfl, hcap, hA, fun i h => ⟨hc i h, hk i h⟩⟩
theorem TrsAt.tree {P : Nat → Prop} {W : World} {l : List Tr} {v : Value} (h : TrsAt P W l v) (n : Int) : TrAt P W (.mk n l) (.int .i64 n) v := by
  obtain ⟨A, cap, r, a, b, rfl, h1, h2, h3⟩ := h
  exact .mk n l A cap r a b h2 h1 (fun i hi => (h3 i hi).1) fun i hi => (h3 i hi).2
theorem TrsAt.keep {P Q : Nat → Prop} {W W' : World} {l : List Tr} {v : Value} (h : TrsAt P W l v) (hs : W.heap.size ≤ W'.heap.size) (hq : ∀ r, P r → r < W.heap.size → Q r ∧ ∀ j, W'.cell? ⟨r, j, none⟩ = W.cell? ⟨r, j, none⟩) : TrsAt Q W' l v :=
  ((h.tree 0).keep hs hq).open_.2
theorem TrsAt.under {P : Nat → Prop} {W W' : World} {l : List Tr} {v : Value} (h : TrsAt P W l v) (b : Below W.heap.size W W') : TrsAt P W' l v :=
  h.keep b.size fun r hp hr => ⟨hp, fun j => b.cell (p := ⟨r, j, none⟩) hr⟩

mutual
def nodesT : Tr → Nat
  | .mk _ l => nodesL l + 1
def nodesL : List Tr → Nat
  | [] => 0
  | a :: r => nodesT a + nodesL r
end
mutual
def deepT : Tr → Nat
  | .mk _ l => deepL l + 1
def deepL : List Tr → Nat
  | [] => 0
  | a :: r => max (deepT a) (deepL r)
end
theorem nodesL_snoc (t : Tr) : ∀ l : List Tr, nodesL (l ++ [t]) = nodesL l + nodesT t
  | [] => by simp [nodesL]
  | a :: l => by rw [List.cons_append, nodesL, nodesL, nodesL_snoc t l]; omega
theorem deepL_snoc (t : Tr) : ∀ l : List Tr, deepL (l ++ [t]) = max (deepL l) (deepT t)
  | [] => by simp [deepL]
  | a :: l => by rw [List.cons_append, deepL, deepL, deepL_snoc t l]; omega
theorem nodesL_take (l : List Tr) (i : Nat) (h : i < l.length) : nodesL (l.take (i + 1)) = nodesL (l.take i) + nodesT l[i] := by rw [List.take_succ_eq_append_getElem h, nodesL_snoc]
theorem deepL_take (l : List Tr) (i : Nat) (h : i < l.length) : deepL (l.take (i + 1)) = max (deepL (l.take i)) (deepT l[i]) := by rw [List.take_succ_eq_append_getElem h, deepL_snoc]
theorem nodesL_le (l : List Tr) (i : Nat) : nodesL (l.take i) ≤ nodesL l := by
  induction l generalizing i with
  | nil => simp [nodesL]
  | cons a r ih =>
    cases i with
    | zero => simp [nodesL]
    | succ i => rw [List.take_succ_cons, nodesL, nodesL]; have := ih i; omega
mutual
theorem deep_le : ∀ t : Tr, deepT t ≤ nodesT t
  | .mk _ l => by rw [deepT, nodesT]; have := deepL_le l; omega
theorem deepL_le : ∀ l : List Tr, deepL l ≤ nodesL l
  | [] => Nat.le_refl _
  | a :: r => by rw [deepL, nodesL]; have := deep_le a; have := deepL_le r; omega
end
theorem nodes_mem : ∀ (l : List Tr) (a : Tr), a ∈ l → nodesT a ≤ nodesL l
  | b :: r, a, h => by
    rw [nodesL]
    rcases List.mem_cons.1 h with rfl | h
    · omega
    · have := nodes_mem r a h; omega
theorem nodes_pos : ∀ t : Tr, 0 < nodesT t
  | .mk _ l => by rw [nodesT]; omega
theorem len_nodes : ∀ l : List Tr, l.length ≤ nodesL l
  | [] => Nat.le_refl _
  | a :: r => by rw [nodesL, List.length_cons]; have := len_nodes r; have := nodes_pos a; omega
/-- A tree whose rows are no longer than so. -/
inductive SmT : Tr → Prop
  | mk (n : Int) (l : List Tr) (h : l.length ≤ 1099511627776) (hl : ∀ a ∈ l, SmT a) : SmT (.mk n l)
mutual
theorem smT_of : ∀ t : Tr, nodesT t ≤ 1099511627776 → SmT t
  | .mk n l, h => .mk n l (by rw [nodesT] at h; have := len_nodes l; omega) (smL_of l (by rw [nodesT] at h; omega))
theorem smL_of : ∀ l : List Tr, nodesL l ≤ 1099511627776 → ∀ a ∈ l, SmT a
  | [], _ => fun a h => absurd h (by simp)
  | b :: r, h => fun a ha => by
    rw [nodesL] at h
    rcases List.mem_cons.1 ha with e | ha
    · rw [e]; exact smT_of b (by omega)
    · exact smL_of r (by omega) a ha
end

set_option maxHeartbeats 4000000 in
theorem size_any {t : Tr} (h : SmT t) : ∀ (P : Nat → Prop) (W : World) (x y : Value), TrAt P W t x y → (∀ r, P r → r < W.heap.size) → nodesT t ≤ 1099511627776 →
    Calls Try.prog 11 #[.agg #[x, y]] W fun e w' => e = .returned (.tuple #[.int .i64 (nodesT t : Nat), .int .i64 (deepT t : Nat)]) ∧ Below W.heap.size W w' := by
  induction h with
  | mk n l hlen hl ih =>
    intro P W x y hnd hP hbig
    obtain ⟨rfl, A, cap, r, a, b, rfl, hcap, hA, hc⟩ := hnd.open_
    obtain ⟨m, hm⟩ : ∃ m, m = l.length := ⟨_, rfl⟩
    rw [← hm] at hA hcap hlen ⊢
    have HMM := Lib.hid hm
    have HA := Lib.hid hA
    have HC := Lib.hid hc
    have HP := Lib.hid hP
    have HIH := Lib.hid ih
    have HBG := Lib.hid (show nodesL l + 1 ≤ 1099511627776 by rw [nodesT] at hbig; exact hbig)
    have HB1 := Lib.hid ((Below.refl W.heap.size W).alloc (Nat.le_refl _) (.cells #[.int .i64 n, .slice A m cap] 39))
    clear hm hA hc hP ih hl hnd hbig
    rw [nodesT, deepT]
    go_enter Try.func11, Try.ntmps11
    go_wp2_with fail
    generalize hV : World.alloc W _ = V
    rw [hV] at HB1
    clear hV
    go_loopw [4, 5, 13] (fun c d i wr => ∃ j : Nat, j ≤ m ∧ i = .int .i64 j ∧ c = .int .i64 ((nodesL (l.take j) + 1 : Nat) : Int) ∧ d = .int .i64 ((deepL (l.take j) : Nat) : Int) ∧ Below W.heap.size W wr) (fun _ _ i _ => m - (intOf i).toNat)
    case atStart => exact ⟨0, Nat.zero_le _, rfl, rfl, rfl, HB1.out⟩
    case round =>
      obtain ⟨j, hj, rfl, rfl, rfl, hb⟩ := hrel
      have HB := Lib.hid hb
      have hle := nodesL_le l j
      have hdl := deepL_le (l.take j)
      have HBG2 := HBG.out
      by_cases hjm : j < m
      · have hjm2 : (j : Int) < (m : Int) := by omega
        have hjl : j < l.length := by rw [← HMM.out]; exact hjm
        obtain ⟨eA, hr, hPr⟩ := HA.out (by omega)
        subst eA
        obtain ⟨⟨q0, q1⟩, hk⟩ := HC.out j hjl
        obtain ⟨kn, kA, km, kc, f1, f2⟩ := hk.form
        rw [f1] at q0
        rw [f2] at q1
        rw [f1, f2] at hk
        have y0 := (hb.cell (p := ⟨r, j * 2, none⟩) hr).trans q0
        have y1 := (hb.cell (p := ⟨r, j * 2 + 1, none⟩) hr).trans q1
        have hn1 := nodesL_take l j hjl
        have hd1 := deepL_take l j hjl
        have hl1 := nodesL_le l (j + 1)
        have hdd := deep_le l[j]
        have HKJ := Lib.hid (fun o => HIH.out l[j] (List.getElem_mem hjl) P (wr.alloc o) _ _ (hk.keep (Q := P) (W' := wr.alloc o) (by have := hb.size; simp; omega) (fun q hp hq => ⟨hp, fun i => (((Below.refl wr.heap.size wr).alloc (Nat.le_refl _) o).cell (p := ⟨q, i, none⟩) (Nat.lt_of_lt_of_le hq hb.size)).trans (hb.cell (p := ⟨q, i, none⟩) hq)⟩)) (fun q hp => by have := HP.out q hp; have := hb.size; simp; omega) (by omega))
        obtain ⟨c0, hc0⟩ : ∃ c0, c0 = nodesL (l.take j) := ⟨_, rfl⟩
        obtain ⟨d0, hd0⟩ : ∃ d0, d0 = deepL (l.take j) := ⟨_, rfl⟩
        obtain ⟨n1, hn⟩ : ∃ n1, n1 = nodesT l[j] := ⟨_, rfl⟩
        obtain ⟨d1, hd⟩ : ∃ d1, d1 = deepT l[j] := ⟨_, rfl⟩
        rw [← hc0, ← hn] at hn1
        rw [← hd0, ← hd] at hd1
        rw [← hn, ← hd] at HKJ
        rw [← hn, ← hd] at hdd
        rw [hn1] at hl1
        rw [← hc0] at hle ⊢
        rw [← hd0] at hdl ⊢
        rw [← hc0] at hdl
        have HN1 := Lib.hid hn1
        have HD1 := Lib.hid hd1
        have HS := Lib.hid hb.size
        clear hn1 hd1 hk q0 q1 f1 f2 hc0 hd0 hn hd hb HBG2
        go_wp2_with fail
        refine (HKJ.out _).mono ?_
        rintro e w3 ⟨rfl, b3⟩
        have HB3 := Lib.hid ((HB.out.alloc HB.out.size _).trans (b3.mono (by have := HS.out; simp; omega)))
        clear b3
        have hbb : c0 + 1 + n1 ≤ 1099511627776 := by have := HBG.out; omega
        go_wp2_with fail
        go_roundw
        case rel => exact ⟨j + 1, by omega, by simp, by rw [HN1.out]; congr 1; omega, by rw [HD1.out]; congr 1; first | omega | (split <;> omega), HB3.out⟩
        case measure => simp [intOf]; omega
      · have hje : m = j := by omega
        subst hje
        have hjm2 : ¬ ((m : Nat) : Int) < ((m : Nat) : Int) := by omega
        have HT := Lib.hid (show l.take m = l by rw [HMM.out, List.take_length])
        rw [HT.out] at hle hdl ⊢
        go_wp2_with fail
        refine bodyPost_ret (results_tmp2 rfl _ _ _) rfl ?_
        exact ⟨by simp, HB.out⟩
end Go.Proofs.Ytdknlifpoihnmaa.Tr
