/-
  Layer 14: the walks of Put and Leftmost.
-/
import Derived.Test.YtdknlifpoihnmaaTrZ
import Derived.Test.YtdknlifpoihnmaaTrI
import Derived.Test.YtdknlifpoihnmaaOctPut
namespace Go.Proofs.Ytdknlifpoihnmaa.Tr
open Go.RowKit
open Gn (Asks)
open Oct (pb)
open Fx (IntsAt Prd PG own_of_block own_base)
set_option maxRecDepth 100000
set_option linter.unusedSimpArgs false
set_option linter.unusedVariables false

theorem wid8 : ∀ f m, Oct.widF f m ≤ f
  | 0, _ => Nat.le_refl _
  | f + 1, m => by
    rw [Oct.widF]
    split
    · omega
    · have := wid8 f (m / 256); omega
theorem be_len : ∀ k m, (Oct.be k m).length = k
  | 0, _ => rfl
  | k + 1, m => by rw [Oct.be, List.length_cons, be_len k m]
theorem pb9 (n : Int) : (pb n).length ≤ 9 := by
  unfold pb
  split
  · simp
  · rw [List.length_cons, be_len]
    have := wid8 8 n.natAbs
    unfold Oct.wid
    omega
theorem pbs9 : ∀ l : List Int, (l.flatMap pb).length ≤ 9 * l.length
  | [] => by simp
  | a :: r => by
    rw [List.flatMap_cons, List.length_append, List.length_cons]
    have := pb9 a
    have := pbs9 r
    omega
theorem BAt.type {B b : Nat} {l : List UInt8} {w : World} (h : BAt B b l w) : ∃ cs fr, w.heap[b]? = some (.cells cs 88 fr) := by
  rcases h with ⟨_, v, hb, _⟩ | ⟨_, v, hb, _⟩
  · exact ⟨_, _, hb⟩
  · exact ⟨_, _, hb⟩
theorem BKept.trees {B b c : Nat} {l : List UInt8} {w w' : World} (hc : c ≤ B) (h : BAt B b l w) (k : BKept B b w w') : KeepT c w w' :=
  ⟨k.1.mono hc, fun i cs fr e => k.cells e (fun e2 => by
    obtain ⟨cs2, fr2, h2⟩ := h.type
    rw [← e2, e] at h2
    injection h2 with h2
    injection h2 with _ h2 _
    cases h2) (by decide)⟩
set_option maxHeartbeats 2000000 in
theorem put1_any (B b : Nat) (l : List UInt8) (n : Int) (w : World) (h : BAt B b l w) (hlen : l.length ≤ 100000000000000) :
    Calls Try.prog 44 #[.int .i64 n, .pointer (some ⟨b, 0, none⟩)] w fun e w' => e = .returned (.tuple #[]) ∧ BAt B b (l ++ pb n) w' ∧ BKept B b w w' := by
  have HPU := Lib.hid (Oct.put_any n w)
  have hlt := h.lt
  have HWS := Lib.hid (fun (w1 : World) (h1 : Below w.heap.size w w1) => writeString_any B b l ⟨(pb n).toArray⟩ w1 (h.under h1) (by
    have := pb9 n
    have e : (⟨(pb n).toArray⟩ : ByteArray).size = (pb n).length := rfl
    omega))
  have HBW := Lib.hid (fun (w1 : World) (h1 : Below w.heap.size w w1) => BKept.of_below (B := B) (b := b) (w := w) (w' := w1) (by omega) h1)
  clear h hlt hlen
  go_enter Try.func44, Try.ntmps44
  go_wp2_with fail
  refine HPU.out.mono ?_
  rintro e w1 ⟨rfl, hb1⟩
  have HB1 := Lib.hid hb1
  clear hb1
  go_wp2_with fail
  refine (HWS.out w1 HB1.out).mono ?_
  rintro e w2 ⟨rfl, h2, k2⟩
  go_wp2_with fail
  go_end0
  exact ⟨rfl, h2, (HBW.out w1 HB1.out).trans k2⟩
set_option maxHeartbeats 4000000 in
theorem putt_any {t : Tr} (hs : SmT t) (hn : nodesT t ≤ 1099511627776) (P : Nat → Prop) (W : World) (x y : Value) (h : TrAt P W t x y) :
    Calls Try.prog 25 #[.agg #[x, y]] W fun e w' => e = .returned (.string ⟨(putT t).toArray⟩) ∧ Below W.heap.size W w' := by
  have h1 : TrAt (fun r => r < W.heap.size) W t x y := h.keep (Nat.le_refl _) fun r _ hr => ⟨hr, fun _ => rfl⟩
  obtain ⟨n, A, m, cap, rfl, rfl⟩ := h.form
  obtain ⟨V, hV⟩ : ∃ V, V = (W.alloc (.cells #[.int .i64 n, .slice A m cap] 39)).alloc (.cells #[.pointer none, .slice none 0 0] 88) := ⟨_, rfl⟩
  have hb0 : Below W.heap.size W V := by rw [hV]; exact ((Below.refl _ W).alloc (Nat.le_refl _) _).alloc (by simp) _
  have hx0 : V.heap[W.heap.size]? = some (.cells #[.int .i64 n, .slice A m cap] 39 (0, 0)) := by rw [hV]; exact (heap_alloc_old _ _ (by simp)).trans (heap_alloc_new W _)
  have hbd : BAt (W.heap.size + 1) (W.heap.size + 1) [] V := by
    have := Lib.fresh_isBuilder 88 5 (W.alloc (.cells #[.int .i64 n, .slice A m cap] 39))
    rw [hV]
    unfold BAt
    simpa [Lib.byteCells] using this
  have HE := Lib.hid (each_put (fun acc w => BAt (W.heap.size + 1) (W.heap.size + 1) (acc.flatMap pb) w) (fun acc w o hst => hst.under ((Below.refl _ w).alloc (Nat.le_refl _) o)) W.heap.size 1099511627776 (W.heap.size + 1)
    (fun acc n w hst hl _ => (put1_any _ _ _ n w hst (by have := pbs9 acc; omega)).mono fun e w' ⟨h1, h2, h3⟩ => ⟨h1, by rw [List.flatMap_append]; simpa using h2, h3.trees (by omega) hst⟩)
    hs [] V _ _ (h1.keep hb0.size fun r hr _ => ⟨hr, fun j => hb0.cell (p := ⟨r, j, none⟩) hr⟩) hb0.size (by simpa using hbd) (by simpa using hn))
  have HV := Lib.hid hV
  have HB0 := Lib.hid hb0
  have HX0 := Lib.hid hx0
  clear h h1 hV hb0 hx0 hbd hs hn
  go_enter Try.func25, Try.ntmps25
  go_upto_region 2 with fail
  rw [← HV.out]
  have q0 := cell_of_row _ _ 0 _ _ (0, 0) HX0.out
  have q1 := cell_of_row _ _ 1 _ _ (0, 0) HX0.out
  go_upto_region 3 with (go_at_call 42; refine HE.out.mono ?_; rintro e w1 ⟨rfl, hst, hk⟩)
  rw [List.nil_append] at hst
  have HST := Lib.hid (bstring_any _ _ _ w1 hst)
  have HK := Lib.hid hk
  clear q0 q1 hst hk
  go_wp2_with (go_at_call 39; refine HST.out.mono ?_; rintro e w2 ⟨rfl, hb2⟩)
  go_ret
  exact ⟨by rw [put_pre]; rfl, (HB0.out.trans HK.out.1).trans (hb2.mono (by omega))⟩
/-- The productions so far lie in the box b. -/
def LeftAt (c b : Nat) (acc : List Int) (W : World) : Prop := ∃ v, W.heap[b]? = some (.cells #[v] 22 (0, 0)) ∧ W.ownsRow c 3 1 v (acc.filter (fun n => !decide (n < 0))).length ((acc.filter (fun n => !decide (n < 0))).map (Value.int .i64)) ∧ c ≤ b ∧ c ≤ W.heap.size
theorem LeftAt.under {c b : Nat} {acc : List Int} {W W' : World} (h : LeftAt c b acc W) (k : Below W.heap.size W W') : LeftAt c b acc W' := by
  obtain ⟨v, h1, h2, h3, h4⟩ := h
  exact ⟨v, (k.block _ (Gn.heap_lt h1)).trans h1, own_of_block h2 fun g e => k.block g (own_base h2 e).2, h3, Nat.le_trans h4 k.size⟩
set_option maxHeartbeats 4000000 in
theorem left1_any (c b : Nat) (acc : List Int) (n : Int) (W : World) (h : LeftAt c b acc W) (hlen : acc.length < 1099511627776) :
    Calls Try.prog 43 #[.int .i64 n, .pointer (some ⟨b, 0, none⟩)] W fun e w' => e = .returned (.tuple #[]) ∧ LeftAt c b (acc ++ [n]) w' ∧ KeepT c W w' := by
  obtain ⟨i0, hi0, hz0, hz1, hz2⟩ := info_parts Fx.iinfo
  obtain ⟨v, hb, hown, hcb, hcw⟩ := h
  have hfl := List.length_filter_le (fun n : Int => !decide (n < 0)) acc
  obtain ⟨fl, hfl2⟩ : ∃ fl, fl = acc.filter (fun n => !decide (n < 0)) := ⟨_, rfl⟩
  rw [← hfl2] at hown hfl
  by_cases hn : n < 0
  · have HR := Lib.hid (show LeftAt c b (acc ++ [n]) W by
      refine ⟨v, hb, ?_, hcb, hcw⟩
      rw [List.filter_append, ← hfl2]
      simpa [hn] using hown)
    clear hb hown hfl2
    go_enter Try.func43, Try.ntmps43
    go_wp2_with fail
    go_end0
    exact ⟨rfl, HR.out, KeepT.refl _ _⟩
  have hn2 : 0 ≤ n := by omega
  have hofb : v.ownBlock ≠ some b := fun e => by
    obtain ⟨cur, e3⟩ := own_cells hown e
    rw [hb] at e3
    injection e3 with e3
    injection e3 with _ e3 _
    cases e3
  obtain ⟨Av, cv, rfl⟩ := Gn.slice_of hown
  obtain ⟨m, hm⟩ : ∃ m, m = fl.length := ⟨_, rfl⟩
  rw [← hm] at hfl
  have hml : m ≤ 1099511627776 := by omega
  have HO := Lib.hid hown
  have HB := Lib.hid hb
  have HM := Lib.hid hm
  have HF := Lib.hid hfl2
  have HOF := Lib.hid hofb
  have c0 := cell_of_row _ _ 0 _ _ (0, 0) hb
  rw [← hm] at c0
  clear hown hb hm hfl2 hfl hofb
  go_enter Try.func43, Try.ntmps43
  go_wp2_with (at_builtin; refine wpList_append_lies _ rfl _ _ 22 rfl c 3 i0 (.int .i64 0) 1 8 Try.underlying22 hi0 hz0 hz1 hz2 rfl (by decide) (.slice Av m cv) m (fl.map (Value.int .i64)) rfl (by rw [HM.out]; exact HO.out.alloc _) ⟨W.heap.size, 0, none⟩ 1 1 [.int .i64 n] rfl rfl (Gn.row_new _ [.int .i64 n] _ _ rfl) (by simp [Value.oneCell']) (by decide) (by unfold maxLen; omega) (by omega) (by simp; omega) _ rfl ?_; intro gq cap4 w4 hown4 hgrow4 hat4 hlt4; have HO4 := Lib.hid hown4; have HG4 := Lib.hid hgrow4; have HA4 := Lib.hid hat4; have hx4 := (hgrow4.block b (by have := Gn.heap_lt HB.out; simp; omega) (fun e => HOF.out (by rw [← HM.out]; exact e.symm))).trans ((heap_alloc_old W _ (Gn.heap_lt HB.out)).trans HB.out); have HX4 := Lib.hid hx4; have c4 := cell_of_row _ _ 0 _ _ (0, 0) hx4; have f4 := Gn.frozen_row hx4 0; clear hx4 hown4 hgrow4 hat4 hlt4)
  go_end0
  have hk : ∀ k, k < W.heap.size → (Value.slice Av m cv).ownBlock ≠ some k → k ≠ b → (w4.setCell ⟨b, 0, none⟩ (.slice (some ⟨gq, 0, none⟩) (m + 1) cap4)).heap[k]? = W.heap[k]? := fun k h1 h2 h3 =>
    (Gn.set_keep _ _ _ (Ne.symm h3)).trans ((HG4.out.block k (by simp; omega) (fun e => h2 e.symm)).trans (heap_alloc_old W _ h1))
  have hown0 : W.ownsRow c 3 1 (.slice Av m cv) m (fl.map (Value.int .i64)) := by rw [HM.out]; exact HO.out
  refine ⟨rfl, ⟨_, Gn.heap_set HX4.out 0 _, ?_, hcb, ?_⟩, ?_, ?_⟩
  · rw [List.filter_append, ← HF.out]
    have e : [n].filter (fun n : Int => !decide (n < 0)) = [n] := by simp [hn]
    rw [e, List.length_append, List.length_singleton, List.map_append, List.map_singleton, ← HM.out]
    refine own_of_block HO4.out fun k e => Gn.set_keep _ _ _ (fun e2 => ?_)
    have e : gq = k := by injection e
    rcases HA4.out with h5 | h5
    · exact HOF.out (by rw [← HM.out, h5, e, e2])
    · have := Gn.heap_lt HB.out
      simp at h5
      omega
  · have := HG4.out.size
    simp [World.setCell]
    simp at this
    omega
  · exact (Below.grown ((Below.refl c W).alloc hcw _) HG4.out (by simp; omega) (fun k e => (own_base hown0 e).1)).setCell hcb _
  · intro k cs fr e
    refine (hk k (Gn.heap_lt e) (fun e2 => ?_) (fun e2 => ?_)).trans e
    · obtain ⟨cur, e3⟩ := own_cells hown0 e2
      rw [e] at e3
      injection e3 with e3
      injection e3 with _ e3 _
      cases e3
    · have e3 := HB.out
      rw [← e2, e] at e3
      injection e3 with e3
      injection e3 with _ e3 _
      cases e3
set_option maxHeartbeats 4000000 in
theorem leftmost_any {t : Tr} (hs : SmT t) (hn : nodesT t ≤ 1099511627776) (P : Nat → Prop) (W : World) (x y : Value) (h : TrAt P W t x y) :
    Calls Try.prog 23 #[.agg #[x, y]] W fun e w' => ∃ v, e = .returned v ∧ IntsAt (fun r => W.heap.size ≤ r) w' (prodT t) v ∧ Below W.heap.size W w' := by
  have h1 : TrAt (fun r => r < W.heap.size) W t x y := h.keep (Nat.le_refl _) fun r _ hr => ⟨hr, fun _ => rfl⟩
  obtain ⟨n, A, m, cap, rfl, rfl⟩ := h.form
  obtain ⟨V, hV⟩ : ∃ V, V = (W.alloc (.cells #[.int .i64 n, .slice A m cap] 39)).alloc (.cells #[.slice none 0 0] 22) := ⟨_, rfl⟩
  have hb0 : Below W.heap.size W V := by rw [hV]; exact ((Below.refl _ W).alloc (Nat.le_refl _) _).alloc (by simp) _
  have hx0 : V.heap[W.heap.size]? = some (.cells #[.int .i64 n, .slice A m cap] 39 (0, 0)) := by rw [hV]; exact (heap_alloc_old _ _ (by simp)).trans (heap_alloc_new W _)
  have hbd : LeftAt W.heap.size (W.heap.size + 1) [] V := by
    have := heap_alloc_new (W.alloc (.cells #[.int .i64 n, .slice A m cap] 39)) (.cells #[.slice none 0 0] 22)
    exact ⟨_, by rw [hV]; simpa using this, World.ownsRow_nil _ _ _ _, by omega, hb0.size⟩
  have HE := Lib.hid (each_left (fun acc w => LeftAt W.heap.size (W.heap.size + 1) acc w) (fun acc w o hst => hst.under ((Below.refl _ w).alloc (Nat.le_refl _) o)) W.heap.size 1099511627776 (W.heap.size + 1)
    (fun acc n w hst hl _ => left1_any _ _ acc n w hst hl)
    hs [] V _ _ (h1.keep hb0.size fun r hr _ => ⟨hr, fun j => hb0.cell (p := ⟨r, j, none⟩) hr⟩) hb0.size hbd (by simpa using hn))
  have HV := Lib.hid hV
  have HB0 := Lib.hid hb0
  have HX0 := Lib.hid hx0
  clear h h1 hV hb0 hx0 hbd hs hn
  go_enter Try.func23, Try.ntmps23
  go_upto_region 2 with fail
  rw [← HV.out]
  have q0 := cell_of_row _ _ 0 _ _ (0, 0) HX0.out
  have q1 := cell_of_row _ _ 1 _ _ (0, 0) HX0.out
  go_upto_region 3 with (go_at_call 42; refine HE.out.mono ?_; rintro e w1 ⟨rfl, hst, hk⟩)
  rw [List.nil_append] at hst
  obtain ⟨v, hb, hown, _, _⟩ := hst
  rw [← prod_pre] at hown
  obtain ⟨Av, cv, rfl⟩ := Gn.slice_of hown
  have HO := Lib.hid hown
  have HK := Lib.hid hk
  have c0 := cell_of_row _ _ 0 _ _ (0, 0) hb
  clear q0 q1 hb hown hk
  go_wp2_with fail
  go_ret
  exact ⟨_, rfl, IntsAt.of_own (e := 3) (base := W.heap.size) HO.out, HB0.out.trans HK.out.1⟩
end Go.Proofs.Ytdknlifpoihnmaa.Tr
