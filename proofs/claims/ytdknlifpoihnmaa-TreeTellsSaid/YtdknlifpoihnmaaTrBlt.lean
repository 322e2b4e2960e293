/-
  Layer 14: the law's built.
-/
import Derived.Test.YtdknlifpoihnmaaTrPa
import Derived.Test.YtdknlifpoihnmaaTrZ
import Derived.Test.YtdknlifpoihnmaaFxMake
import Derived.Test.YtdknlifpoihnmaaFxPr
namespace Go.Proofs.Ytdknlifpoihnmaa.Tr
open Go.RowKit
open Gn (Asks)
open Fx (own_of_block own_base cells2 cells2_at)
set_option maxRecDepth 100000
set_option linter.unusedSimpArgs false
set_option linter.unusedVariables false

/-- Pairs of numbers that came. -/
def PrsIn (W : World) (l : List (Int × Int)) (v : Value) : Prop := ∃ (A : Option Addr) (cap b off : Nat), v = .slice A l.length cap ∧ (0 < l.length → A = some ⟨b, off, none⟩ ∧ b < W.heap.size) ∧ ∀ (i : Nat) (h : i < l.length), W.cell? ⟨b, off + i * 2, none⟩ = some (.int .i64 l[i].1) ∧ W.cell? ⟨b, off + i * 2 + 1, none⟩ = some (.int .i64 l[i].2)
def Num (n : Int) : Prop := -9223372036854775808 ≤ n ∧ n ≤ 9223372036854775807
/-- All numbers of a tree are numbers. -/
def Fine (t : Tr) : Prop := ∀ n ∈ preT t, Num n
def FineL (l : List Tr) : Prop := ∀ n ∈ preL l, Num n
theorem FineL.app {l k : List Tr} (h : FineL l) (h2 : FineL k) : FineL (l ++ k) := by
  intro n hn
  have e : preL (l ++ k) = preL l ++ preL k := by
    clear h hn
    induction l with
    | nil => simp [preL]
    | cons a r ih => rw [List.cons_append, preL, preL, ih, List.append_assoc]
  rw [e, List.mem_append] at hn
  exact hn.elim (h n) (h2 n)
theorem FineL.part {l k : List Tr} (h : FineL (l ++ k)) : FineL l ∧ FineL k := by
  have e : preL (l ++ k) = preL l ++ preL k := by
    clear h
    induction l with
    | nil => simp [preL]
    | cons a r ih => rw [List.cons_append, preL, preL, ih, List.append_assoc]
  refine ⟨fun n hn => h n ?_, fun n hn => h n ?_⟩
  · rw [e]; exact List.mem_append.2 (.inl hn)
  · rw [e]; exact List.mem_append.2 (.inr hn)
theorem Fine.mk {n : Int} {l : List Tr} (hn : Num n) (h : FineL l) : Fine (.mk n l) := by
  intro k hk
  rw [preT, List.mem_cons] at hk
  rcases hk with rfl | hk
  · exact hn
  · exact h k hk
theorem FineL.one {t : Tr} (h : Fine t) : FineL [t] := by
  intro n hn
  rw [preL, preL, List.append_nil] at hn
  exact h n hn
theorem nodesL_app (l k : List Tr) : nodesL (l ++ k) = nodesL l + nodesL k := by
  induction l with
  | nil => simp [nodesL]
  | cons a r ih => rw [List.cons_append, nodesL, nodesL, ih]; omega
theorem one_in : ∀ (l : List Tr) (i : Nat) (h : i < l.length), nodesT l[i] ≤ nodesL l ∧ (FineL l → Fine l[i])
  | [], i, h => absurd h (by simp)
  | a :: r, 0, h => by
    refine ⟨by rw [nodesL]; exact Nat.le_add_right _ _, fun hf n hn => hf n ?_⟩
    rw [preL, List.mem_append]
    exact .inl hn
  | a :: r, i + 1, h => by
    have ih := one_in r i (by simpa using h)
    refine ⟨by rw [nodesL]; exact Nat.le_trans ih.1 (Nat.le_add_left _ _), fun hf => ih.2 fun n hn => hf n ?_⟩
    rw [preL, List.mem_append]
    exact .inr hn
theorem tr_zero9 (P : Nat → Prop) (w : World) : TrAt P w (.mk 0 []) (.int .i64 0) (.slice none 0 0) := .mk 0 [] none 0 0 (fun _ => .bool false) (fun _ => .bool false) (fun h => absurd h (by simp)) (Nat.le_refl _) (fun i hi => absurd hi (by simp)) (fun i hi => absurd hi (by simp))
theorem lies_block {w : World} {a : Nat} {x y : Value} {T : TypeId} {fr : Nat × Nat} (h : w.heap[a]? = some (.cells #[x, y] T fr)) : LiesAt w ⟨a, 0, none⟩ [(x, y)] := by
  intro j u hj
  rw [Gn.add_row, cell_of_row _ _ j _ _ fr h]
  simpa [cells2] using hj
def BtOut (W : World) (e : Ending) (w' : World) : Prop := ∃ (t : Tr) (n : Int) (A : Option Addr) (m c : Nat), e = .returned (.agg #[.int .i64 n, .slice A m c]) ∧ TrAt (fun r => W.heap.size ≤ r) w' t (.int .i64 n) (.slice A m c) ∧ nodesT t ≤ 31 ∧ Fine t ∧ Below W.heap.size W w'
theorem src_at {w w' : World} {q : Nat} {vs : List (Value × Value)} (hc : ∀ (i : Nat) (hi : i < vs.length), w.cell? ⟨q, i * 2, none⟩ = some vs[i].1 ∧ w.cell? ⟨q, i * 2 + 1, none⟩ = some vs[i].2) (hq : q < w.heap.size) (b : Below w.heap.size w w') (o k : Nat) : LiesAt w' ⟨q, o * 2, none⟩ ((vs.drop o).take k) :=
  lies_piece (fun i hi => ⟨(b.cell (p := ⟨q, i * 2, none⟩) hq).trans (hc i hi).1, (b.cell (p := ⟨q, i * 2 + 1, none⟩) hq).trans (hc i hi).2⟩) o k
/-- A row that was made of a piece and one tree more. -/
theorem row_done {lo hi base : Nat} {w : World} {ts : List Tr} {vs : List (Value × Value)} {t : Tr} {x y v : Value} {o : Nat} (ho : ts.length = o) (hp : PairsAt lo hi w ts vs) (ht : TrAt (fun r => lo ≤ r ∧ r < hi) w t x y) (hw : w.ownsRow base 39 2 v (0 + o + 1) ([] ++ cells2 vs ++ cells2 [(x, y)])) (hb : lo ≤ base) :
    ∃ (A : Option Addr) (c : Nat), v = .slice A (ts ++ [t]).length c ∧ TrsAt (fun r => lo ≤ r) w (ts ++ [t]) (.slice A (ts ++ [t]).length c) := by
  have e : 0 + o + 1 = (ts ++ [t]).length := by rw [List.length_append, ho]; simp
  rw [e, List.nil_append, ← cells2_app] at hw
  obtain ⟨A, c, rfl⟩ := Gn.slice_of hw
  exact ⟨A, c, rfl, PairsAt.trs (hp.app (PairsAt.one ht)) hw hb⟩
set_option maxHeartbeats 16000000 in
theorem built_any (xs : List (Int × Int)) (W : World) (v : Value) (h : PrsIn W xs v) (hnum : ∀ p ∈ xs, Num p.1) (hxm : xs.length ≤ 9223372036854775807) : Calls Try.prog 9 #[v] W (BtOut W) := by
  obtain ⟨A, cap, b, off, rfl, hA, hc⟩ := h
  obtain ⟨ln, hln⟩ : ∃ ln, ln = xs.length := ⟨_, rfl⟩
  rw [← hln] at hA hxm ⊢
  obtain ⟨V, hV⟩ : ∃ V, V = W.alloc (.cells #[.int .i64 0, .slice none 0 0] 39) := ⟨_, rfl⟩
  have hb0 : Below W.heap.size W V := by rw [hV]; exact (Below.refl _ W).alloc (Nat.le_refl _) _
  have hx0 : V.heap[W.heap.size]? = some (.cells #[.int .i64 0, .slice none 0 0] 39 (0, 0)) := by rw [hV]; exact heap_alloc_new W _
  obtain ⟨lo, hlo⟩ : ∃ lo, lo = W.heap.size + 1 := ⟨_, rfl⟩
  have HLO := Lib.hid hlo
  have HLN := Lib.hid hln
  have HA := Lib.hid hA
  have HC := Lib.hid hc
  have HV := Lib.hid hV
  have HB0 := Lib.hid hb0
  have HX0 := Lib.hid hx0
  have HNUM := Lib.hid hnum
  clear hA hc hV hb0 hx0 hnum hln hlo
  go_enter Try.func9, Try.ntmps9
  go_upto_region 1 with fail
  rw [← HV.out]
  go_wp2_with fail
  go_loopw [3, 4] (fun sv i wr => ∃ (j : Nat) (As : Option Addr) (cs : Nat) (st : List Tr), j ≤ 30 ∧ i = .int .i64 j ∧ sv = .slice As st.length cs ∧ (st.length = 0 → As = none ∧ cs = 0) ∧ TrsAt (fun r => lo ≤ r) wr st (.slice As st.length cs) ∧ nodesL st ≤ j ∧ st.length ≤ j ∧ FineL st ∧ Below W.heap.size W wr ∧ wr.heap[W.heap.size]? = some (.cells #[.int .i64 0, .slice none 0 0] 39 (0, 0))) (fun _ i _ => 30 - (intOf i).toNat)
  case atStart => exact ⟨0, none, 0, [], Nat.zero_le _, rfl, rfl, fun _ => ⟨rfl, rfl⟩, ⟨none, 0, 0, fun _ => .bool false, fun _ => .bool false, rfl, Nat.le_refl _, fun h => absurd h (by simp), fun i h => absurd h (by simp)⟩, by rw [nodesL]; exact Nat.le_refl _, Nat.le_refl _, fun n hn => by rw [preL] at hn; exact absurd hn (by simp), HB0.out, HX0.out⟩
  case round =>
    obtain ⟨j, As, cs, st, hj, rfl, rfl, hnil, hts, hnd, hsl, hfn, hbel, hbx⟩ := hrel
    obtain ⟨_, hcap, vs, q0, hpr, hq0, hvc⟩ := hts.pairs
    obtain ⟨m, hm⟩ : ∃ m, m = st.length := ⟨_, rfl⟩
    rw [← hm] at hnil hts hcap hq0 hsl ⊢
    have HM := Lib.hid hm
    have HPR := Lib.hid hpr
    have HVC := Lib.hid hvc
    have HND := Lib.hid hnd
    have HFN := Lib.hid hfn
    have HBL := Lib.hid hbel
    have HBX := Lib.hid hbx
    have HTS := Lib.hid hts
    have hwlo : lo ≤ wr.heap.size := by rw [HLO.out]; exact Gn.heap_lt hbx
    clear hm hpr hvc hnd hfn hbel hbx hts
    by_cases hgo : j < ln ∧ j < 30
    · obtain ⟨hjl, hj30⟩ := hgo
      have hjl2 : (j : Int) < (ln : Int) := by omega
      have hj302 : (j : Int) < 30 := by omega
      have hjx : j < xs.length := by rw [← HLN.out]; exact hjl
      obtain ⟨eA, hbl⟩ := HA.out (by omega)
      subst eA
      obtain ⟨p0, p1⟩ := HC.out j hjx
      obtain ⟨x1, hx1⟩ : ∃ x1, x1 = xs[j].1 := ⟨_, rfl⟩
      obtain ⟨x2, hx2⟩ : ∃ x2, x2 = xs[j].2 := ⟨_, rfl⟩
      have HX1 := Lib.hid (show Num x1 by rw [hx1]; exact HNUM.out _ (List.getElem_mem hjx))
      rw [← hx1] at p0
      rw [← hx2] at p1
      have y0 := (HBL.out.cell (p := ⟨b, off + j * 2, none⟩) hbl).trans p0
      have y1 := (HBL.out.cell (p := ⟨b, off + j * 2 + 1, none⟩) hbl).trans p1
      obtain ⟨k0, hk0, hk3⟩ : ∃ k0 : Nat, bits .and .i64 x2 3 = (k0 : Int) ∧ k0 ≤ 3 := ⟨(bits .and .i64 x2 3).toNat, by rw [Fx.and3]; omega, by rw [Fx.and3]; omega⟩
      clear p0 p1 hx1 hx2
      go_upto_region 6 with fail
      go_upto_if 26 with fail
      go_cut [5] (fun s5 wx => ∃ k : Nat, k ≤ m ∧ s5 = .int .i64 k ∧ wx = wr)
      case first =>
        by_cases hkm : m < k0
        · have hkm2 : (m : Int) < (k0 : Int) := by omega
          go_wp2_with fail
          go_meet
          case rel => exact ⟨m, Nat.le_refl _, rfl, rfl⟩
        · have hkm2 : ¬ (m : Int) < (k0 : Int) := by omega
          go_wp2_with fail
          go_meet
          case rel => exact ⟨k0, by omega, rfl, rfl⟩
      case rest =>
        obtain ⟨k, hkm, rfl, hwx⟩ := hcut
        subst hwx
        clear y1 hk0 hk3
        obtain ⟨o, ho⟩ : ∃ o, o = m - k := ⟨_, rfl⟩
        have hom : o + k = m := by omega
        have hsub : (m : Int) - (k : Int) = (o : Int) := by omega
        have hwr : IntKind.i64.wrap ((m : Int) - (k : Int)) = (o : Int) := by rw [hsub]; exact IntWalk.i64_in _ (by omega)
        clear hsub
        have hole : o ≤ m := by omega
        have hocs : o ≤ cs := by omega
        have hmo : m - o = k := by omega
        obtain ⟨V1, hV1⟩ : ∃ V1, V1 = wc.alloc (.cells #[.int .i64 x1, .slice none 0 0] 39) := ⟨_, rfl⟩
        have hb1 : Below wc.heap.size wc V1 := by rw [hV1]; exact (Below.refl _ _).alloc (Nat.le_refl _) _
        have ht1 : V1.heap[wc.heap.size]? = some (.cells #[.int .i64 x1, .slice none 0 0] 39 (0, 0)) := by rw [hV1]; exact heap_alloc_new _ _
        have hz1 : V1.heap.size = wc.heap.size + 1 := by rw [hV1]; simp
        have HB1 := Lib.hid hb1
        have HT1 := Lib.hid ht1
        have HZ1 := Lib.hid hz1
        have HV1 := Lib.hid hV1
        have HTB := Lib.hid (show wc.heap.size = wc.heap.size from rfl)
        clear hV1 hb1 ht1 hz1 ho
        go_upto_region 9 with fail
        rw [← HV1.out]
        clear y0
        have HDL := Lib.hid (show (st.drop o).length = k by rw [List.length_drop, ← HM.out]; omega)
        have HFL := Lib.hid (show (st.take o).length = o by rw [List.length_take, ← HM.out]; omega)
        have HBW := Lib.hid HBL.out
        obtain ⟨st2, hst2⟩ : ∃ st2, st2 = st.take o ++ [Tr.mk x1 (st.drop o)] := ⟨_, rfl⟩
        have HST2 := Lib.hid hst2
        have HL2 := Lib.hid (show st2.length = o + 1 by rw [hst2, List.length_append, HFL.out]; rfl)
        have hsplit : st.take o ++ st.drop o = st := List.take_append_drop o st
        have HN2 := Lib.hid (show nodesL st2 ≤ j + 1 by
          have h1 := HND.out
          rw [← hsplit, nodesL_app] at h1
          rw [hst2, nodesL_app, nodesL, nodesL, nodesT]
          omega)
        have HF2 := Lib.hid (show FineL st2 by
          have h1 := HFN.out
          rw [← hsplit] at h1
          rw [hst2]
          exact h1.part.1.app (FineL.one (Fine.mk HX1.out h1.part.2)))
        have HPD := Lib.hid (fun (w : World) (bw : Below V1.heap.size V1 w) => (HPR.out.drop o).keep (Nat.le_trans HB1.out.size bw.size) fun r _ h9 _ => (HB1.out.trans (bw.mono HB1.out.size)).block r h9)
        have t1c := cell_of_row _ _ 1 _ _ (0, 0) HT1.out
        clear hst2 hsplit
        by_cases hm0 : m = 0
        · obtain ⟨rfl, rfl⟩ := hnil hm0
          have hk0 : k = 0 := by omega
          have ho0 : o = 0 := by omega
          have HL9 := Lib.hid (fun (w : World) (bw : Below V1.heap.size V1 w) => (show (k = 0 ∧ Value.slice none 0 0 = Value.slice none 0 0) ∨ ∃ ad c, Value.slice none 0 0 = Value.slice (some ad) k c ∧ LiesAt w ad (vs.drop o) from .inl ⟨hk0, rfl⟩))
          have HLX := Lib.hid (fun (w : World) (bw : Below wc.heap.size wc w) => (show (o = 0 ∧ Value.slice none 0 0 = Value.slice none 0 0) ∨ ∃ ad c, Value.slice none 0 0 = Value.slice (some ad) o c ∧ LiesAt w ad (vs.take o) from .inl ⟨ho0, rfl⟩))
          subst hk0
          subst ho0
          subst hm0
          have hwz : IntKind.i64.wrap 0 = 0 := by decide
          clear hwr
          refine wp_region_noPanic ?_
          refine wp_region_held_drew (S := (fun _ : World => True)) (by kernel_rfl) ?_ (fun hHeld => ?_)
          · exact trivial
          refine wpAnyH_take (i := 0) (v := ?_) rfl (by kernel_rfl) (by kernel_rfl) (by kernel_rfl) (fun _ _ _ h => h) (Or.inl ⟨by rfl, ?_⟩) (by assumption) ?_
          rotate_left
          · intro w hSw
            try dsimp only at hSw
            go_simp
            try with_reducible rfl
          try simp only [Act.put, List.setIfInBounds_toArray, List.set_cons_zero, List.set_cons_succ]
          refine wpAnyH_take (i := 2) (v := ?_) rfl (by kernel_rfl) (by kernel_rfl) (by kernel_rfl) (fun _ _ _ h => h) (Or.inl ⟨by rfl, ?_⟩) (by assumption) ?_
          rotate_left
          · intro w hSw
            try dsimp only at hSw
            go_simp
            try with_reducible rfl
          try simp only [Act.put, List.setIfInBounds_toArray, List.set_cons_zero, List.set_cons_succ]
          refine wpAnyH_take (i := 3) (v := ?_) rfl (by kernel_rfl) (by kernel_rfl) (by kernel_rfl) (fun _ _ _ h => h) (Or.inl ⟨by rfl, ?_⟩) (by assumption) ?_
          rotate_left
          · intro w hSw
            try dsimp only at hSw
            go_simp
            try with_reducible rfl
          try simp only [Act.put, List.setIfInBounds_toArray, List.set_cons_zero, List.set_cons_succ]
          refine wpAnyH_take (i := 4) (v := ?_) rfl (by kernel_rfl) (by kernel_rfl) (by kernel_rfl) (fun _ _ _ h => h) (Or.inl ⟨by rfl, ?_⟩) (by assumption) ?_
          rotate_left
          · intro w hSw
            try dsimp only at hSw
            go_simp
            try with_reducible rfl
          try simp only [Act.put, List.setIfInBounds_toArray, List.set_cons_zero, List.set_cons_succ]
          refine wpAnyH_take (i := 5) (v := ?_) rfl (by kernel_rfl) (by kernel_rfl) (by kernel_rfl) (fun _ _ _ h => h) (Or.inl ⟨by rfl, ?_⟩) (by assumption) ?_
          rotate_left
          · intro w hSw
            try dsimp only at hSw
            go_simp
            try with_reducible rfl
          try simp only [Act.put, List.setIfInBounds_toArray, List.set_cons_zero, List.set_cons_succ]
          refine wpAnyH_take (i := 6) (v := ?_) rfl (by kernel_rfl) (by kernel_rfl) (by kernel_rfl) (fun _ _ _ h => h) (Or.inl ⟨by rfl, ?_⟩) (by assumption) ?_
          rotate_left
          · intro w hSw
            try dsimp only at hSw
            go_simp
            try with_reducible rfl
          try simp only [Act.put, List.setIfInBounds_toArray, List.set_cons_zero, List.set_cons_succ]
          refine wpAnyH_take (i := 7) (v := ?_) rfl (by kernel_rfl) (by kernel_rfl) (by kernel_rfl) (fun _ _ _ h => h) (Or.inl ⟨by rfl, ?_⟩) (by assumption) ?_
          rotate_left
          · intro w hSw
            try dsimp only at hSw
            go_simp
            try with_reducible rfl
          try simp only [Act.put, List.setIfInBounds_toArray, List.set_cons_zero, List.set_cons_succ]
          refine wpAnyH_ready (rs := [1]) (by kernel_rfl) (by simp) ?_
          refine AllReadyH.cons rfl (fun K hK => ?_) AllReadyH.nil
          go_simp
          refine hK.out _ _ (trivial) (fun hHeld => ?_)
          clear hK K
          try simp only [Act.put, List.setIfInBounds_toArray, List.set_cons_zero, List.set_cons_succ]
          refine wpAnyH_ready (rs := [8]) (by kernel_rfl) (by simp) ?_
          refine AllReadyH.cons rfl (fun K hK => ?_) AllReadyH.nil
          refine step_append_pairs _ (by rfl) (.tmp 36) (.tmp 42) (by rfl) V1.heap.size (.slice none 0 0) 0 [] (by simp [Act.eval]) (World.ownsRow_nil _ _ _ _) (HPD.out _ (by first | exact Gn.below_drew (Below.refl _ _))) _ rfl 0 HDL.out (HL9.out _ (by first | exact Gn.below_drew (Below.refl _ _))) (by omega) (by first | exact Nat.le_refl _ | simp) ?_
          intro v9 w9 ho9 hg9 hat9
          have hb9 : Below V1.heap.size V1 w9 := Below.grown (by first | exact Gn.below_drew (Below.refl _ _)) hg9 (by first | exact Nat.le_refl _ | simp) (fun kk hk => by cases hk)
          rw [Nat.zero_add, List.nil_append] at ho9
          obtain ⟨A9, c9, rfl⟩ := Gn.slice_of ho9
          have HO9 := Lib.hid ho9
          have HB9 := Lib.hid hb9
          have d9 : w9.cell? ⟨wc.heap.size, 1, none⟩ = some (.slice none 0 0) := cell_of_row _ _ 1 _ _ (0, 0) ((hb9.block _ (Gn.heap_lt HT1.out)).trans HT1.out)
          have df9 := Gn.frozen_row ((hb9.block _ (Gn.heap_lt HT1.out)).trans HT1.out) 1
          clear ho9 hg9 hat9 hb9
          refine hK.out _ _ (trivial) (fun hHeld => ?_)
          clear hK K
          try simp only [Act.put, List.setIfInBounds_toArray, List.set_cons_zero, List.set_cons_succ]
          refine wpAnyH_take (i := 9) (v := ?_) rfl (by kernel_rfl) (by kernel_rfl) (by kernel_rfl) (fun _ _ _ h => h) (Or.inl ⟨by rfl, ?_⟩) (by assumption) ?_
          rotate_left
          · intro w hSw
            try dsimp only at hSw
            go_simp
            try with_reducible rfl
          try simp only [Act.put, List.setIfInBounds_toArray, List.set_cons_zero, List.set_cons_succ]
          refine wpAnyH_ready (rs := [10]) (by kernel_rfl) (by simp) ?_
          refine AllReadyH.cons rfl (fun K hK => ?_) AllReadyH.nil
          go_simp
          refine hK.out _ _ (trivial) (fun hHeld => ?_)
          clear hK K
          try simp only [Act.put, List.setIfInBounds_toArray, List.set_cons_zero, List.set_cons_succ]
          refine wpAnyH_done (by kernel_rfl) ?_ _
          refine NoPanic.normal ?_
          go_upto_region 10 with fail
          obtain ⟨W2, hW2⟩ : ∃ W2, W2 = w9.setCell ⟨wc.heap.size, 1, none⟩ (.slice A9 0 c9) := ⟨_, rfl⟩
          have hb19 : Below wc.heap.size wc w9 := (by rw [HTB.out]; exact HB1.out.trans (HB9.out.mono HB1.out.size))
          have hb2 : Below wc.heap.size wc W2 := by rw [hW2]; exact hb19.setCell (Nat.le_refl _) _
          have ht2 : W2.heap[wc.heap.size]? = some (.cells #[.int .i64 x1, .slice A9 0 c9] 39 (0, 0)) := by
            rw [hW2]
            exact Gn.heap_set ((HB9.out.block _ (Gn.heap_lt HT1.out)).trans HT1.out) 1 _
          have hz2 : V1.heap.size ≤ W2.heap.size := by rw [hW2]; simpa [World.setCell] using HB9.out.size
          have ho2 : W2.ownsRow V1.heap.size 39 2 (.slice A9 0 c9) 0 (cells2 (vs.drop 0)) := by
            rw [hW2]
            exact ownsRow_setCell_below HO9.out (by show wc.heap.size < _; have := HZ1.out; omega) _
          have htz := HTB.out
          have hz1 := HZ1.out
          have hpd2 : PairsAt lo W2.heap.size W2 (st.drop 0) (vs.drop 0) := ⟨(HPR.out.drop 0).1, fun i h1 h2 => ((HPR.out.drop 0).2 i h1 h2).keep (by omega) fun r hr hz => ⟨⟨hr.1, by omega⟩, fun x => Gn.cell_same (hb2.block r (by omega)) x⟩⟩
          have hpf : PairsAt lo W2.heap.size W2 (st.take 0) (vs.take 0) := ⟨(HPR.out.take 0).1, fun i h1 h2 => ((HPR.out.take 0).2 i h1 h2).keep (by omega) fun r hr hz => ⟨⟨hr.1, by omega⟩, fun x => Gn.cell_same (hb2.block r (by omega)) x⟩⟩
          have hkids : TrsAt (fun r => lo ≤ r) W2 (st.drop 0) (.slice A9 0 c9) := PairsAt.trs hpd2 (by rw [HDL.out]; exact ho2) (by omega)
          have htree := tr_low (hkids.tree x1)
          have HTR := Lib.hid (fun (w : World) (bw : Below W2.heap.size W2 w) => (htree.under bw))
          have HPF := Lib.hid (fun (w : World) (bw : Below W2.heap.size W2 w) => hpf.keep bw.size fun r _ h9 _ => bw.block r h9)
          have HMK2 := Lib.hid (fun (w' : World) (bw : Below W2.heap.size W2 w') => show (fun w' : World => w'.cell? ⟨wc.heap.size, 0, none⟩ = some (.int .i64 x1) ∧ w'.cell? ⟨wc.heap.size, 1, none⟩ = some (.slice A9 0 c9)) w' from ⟨cell_of_row _ _ 0 _ _ (0, 0) ((bw.block _ (Gn.heap_lt ht2)).trans ht2), cell_of_row _ _ 1 _ _ (0, 0) ((bw.block _ (Gn.heap_lt ht2)).trans ht2)⟩)
          have HL6 := Lib.hid (fun (w : World) (bw : Below W2.heap.size W2 w) => HLX.out w (((by rw [← HTB.out]; exact hb2 : Below wc.heap.size wc W2)).trans (bw.mono (by omega))))
          have HB2 := Lib.hid hb2
          have HW2 := Lib.hid hW2
          have HZ2 := Lib.hid (show lo ≤ W2.heap.size by omega)
          have HBX2 := Lib.hid ((hb2.block _ (by rw [HTB.out]; exact Gn.heap_lt HBX.out)).trans HBX.out)
          clear hW2 hb19 hb2 ht2 hz2 ho2 hpd2 hkids htree hpf d9 df9 htz hz1
          rw [← HW2.out]
          refine wp_region_noPanic ?_
          refine wp_region_held_drew (S := (fun w' : World => w'.cell? ⟨wc.heap.size, 0, none⟩ = some (.int .i64 x1) ∧ w'.cell? ⟨wc.heap.size, 1, none⟩ = some (.slice A9 0 c9))) (by kernel_rfl) ?_ (fun hHeld => ?_)
          · exact HMK2.out _ (Gn.below_drew (Below.refl W2.heap.size W2))
          refine wpAnyH_take (i := 1) (v := ?_) rfl (by kernel_rfl) (by kernel_rfl) (by kernel_rfl) (fun _ _ _ h => h) (Or.inl ⟨by rfl, ?_⟩) (by assumption) ?_
          rotate_left
          · intro w hSw
            try dsimp only at hSw
            go_simp
            try with_reducible rfl
          try simp only [Act.put, List.setIfInBounds_toArray, List.set_cons_zero, List.set_cons_succ]
          refine wpAnyH_take (i := 2) (v := ?_) rfl (by kernel_rfl) (by kernel_rfl) (by kernel_rfl) (fun _ _ _ h => h) (Or.inl ⟨by rfl, ?_⟩) (by assumption) ?_
          rotate_left
          · intro w hSw
            try dsimp only at hSw
            go_simp
            try with_reducible rfl
          try simp only [Act.put, List.setIfInBounds_toArray, List.set_cons_zero, List.set_cons_succ]
          refine wpAnyH_take (i := 3) (v := ?_) rfl (by kernel_rfl) (by kernel_rfl) (by kernel_rfl) (fun _ _ _ h => h) (Or.inl ⟨by rfl, ?_⟩) (by assumption) ?_
          rotate_left
          · intro w hSw
            try dsimp only at hSw
            go_simp
            try with_reducible rfl
          try simp only [Act.put, List.setIfInBounds_toArray, List.set_cons_zero, List.set_cons_succ]
          refine wpAnyH_take (i := 4) (v := ?_) rfl (by kernel_rfl) (by kernel_rfl) (by kernel_rfl) (fun _ _ _ h => h) (Or.inl ⟨by rfl, ?_⟩) (by assumption) ?_
          rotate_left
          · intro w hSw
            try dsimp only at hSw
            go_simp
            try with_reducible rfl
          try simp only [Act.put, List.setIfInBounds_toArray, List.set_cons_zero, List.set_cons_succ]
          refine wpAnyH_take (i := 5) (v := ?_) rfl (by kernel_rfl) (by kernel_rfl) (by kernel_rfl) (fun _ _ _ h => h) (Or.inl ⟨by rfl, ?_⟩) (by assumption) ?_
          rotate_left
          · intro w hSw
            try dsimp only at hSw
            go_simp
            try with_reducible rfl
          try simp only [Act.put, List.setIfInBounds_toArray, List.set_cons_zero, List.set_cons_succ]
          refine wpAnyH_take (i := 6) (v := ?_) rfl (by kernel_rfl) (by kernel_rfl) (by kernel_rfl) (fun _ _ _ h => h) (Or.inl ⟨by rfl, ?_⟩) (by assumption) ?_
          rotate_left
          · intro w hSw
            try dsimp only at hSw
            go_simp
            try with_reducible rfl
          try simp only [Act.put, List.setIfInBounds_toArray, List.set_cons_zero, List.set_cons_succ]
          refine wpAnyH_take (i := 8) (v := ?_) rfl (by kernel_rfl) (by kernel_rfl) (by kernel_rfl) (fun _ _ _ h => h) (Or.inl ⟨by rfl, ?_⟩) (by assumption) ?_
          rotate_left
          · intro w hSw
            try dsimp only at hSw
            go_simp
            try with_reducible rfl
          try simp only [Act.put, List.setIfInBounds_toArray, List.set_cons_zero, List.set_cons_succ]
          refine wpAnyH_ready (rs := [0, 9]) (by kernel_rfl) (by simp) ?_
          refine AllReadyH.cons rfl (fun K hK => ?_) ?_
          · go_simp
            refine hK.out _ _ (HMK2.out _ (Below.alloc (Gn.below_drew (Below.refl W2.heap.size W2)) (Below.size (Gn.below_drew (Below.refl W2.heap.size W2))) (.cells #[] 39))) (fun hHeld => ?_)
            clear hK K
            try simp only [Act.put, List.setIfInBounds_toArray, List.set_cons_zero, List.set_cons_succ]
            refine wpAnyH_ready (rs := [7, 9]) (by kernel_rfl) (by simp) ?_
            refine AllReadyH.cons rfl (fun K hK => ?_) ?_
            · refine step_append_pairs _ (by rfl) (.tmp 45) (.tmp 51) (by rfl) W2.heap.size (.slice (some ⟨W2.heap.size, 0, none⟩) 0 0) 0 [] rfl (World.ownsRow_made (base := W2.heap.size) W2.drew #[] 0 (Nat.le_refl _) (by decide) (by simp)) (HPF.out _ (Below.alloc (Gn.below_drew (Below.refl W2.heap.size W2)) (Below.size (Gn.below_drew (Below.refl W2.heap.size W2))) (.cells #[] 39))) _ rfl 0 HFL.out (HL6.out _ (Below.alloc (Gn.below_drew (Below.refl W2.heap.size W2)) (Below.size (Gn.below_drew (Below.refl W2.heap.size W2))) (.cells #[] 39))) (by omega) (Below.size (Below.alloc (Gn.below_drew (Below.refl W2.heap.size W2)) (Below.size (Gn.below_drew (Below.refl W2.heap.size W2))) (.cells #[] 39))) ?_
              intro v7 w7 ho7 hg7 hat7
              have hb7 : Below W2.heap.size W2 w7 := Below.grown (Below.alloc (Gn.below_drew (Below.refl W2.heap.size W2)) (Below.size (Gn.below_drew (Below.refl W2.heap.size W2))) (.cells #[] 39)) hg7 (Below.size (Below.alloc (Gn.below_drew (Below.refl W2.heap.size W2)) (Below.size (Gn.below_drew (Below.refl W2.heap.size W2))) (.cells #[] 39))) (fun kk hk => by injection hk with hk; simp at hk; omega)
              have HO7 := Lib.hid ho7
              have HB7 := Lib.hid hb7
              clear ho7 hg7 hat7 hb7
              refine hK.out _ _ (HMK2.out _ HB7.out) (fun hHeld => ?_)
              clear hK K
              try simp only [Act.put, List.setIfInBounds_toArray, List.set_cons_zero, List.set_cons_succ]
              refine wpAnyH_ready (rs := [9]) (by kernel_rfl) (by simp) ?_
              refine AllReadyH.cons rfl (fun K hK => ?_) AllReadyH.nil
              go_simp
              refine hK.out _ _ (HMK2.out _ (Below.alloc HB7.out (Below.size HB7.out) (.cells #[.int .i64 x1, .slice A9 0 c9] 39))) (fun hHeld => ?_)
              clear hK K
              try simp only [Act.put, List.setIfInBounds_toArray, List.set_cons_zero, List.set_cons_succ]
              refine wpAnyH_ready (rs := [10]) (by kernel_rfl) (by simp) ?_
              refine AllReadyH.cons rfl (fun K hK => ?_) AllReadyH.nil
              refine step_append_pairs _ (by rfl) (.tmp 52) (.tmp 54) (by rfl) W2.heap.size v7 (0 + 0) ([] ++ cells2 (vs.take 0)) rfl (World.ownsRow.alloc HO7.out _) (PairsAt.one (HTR.out _ (Below.alloc HB7.out (Below.size HB7.out) (.cells #[.int .i64 x1, .slice A9 0 c9] 39)))) _ rfl 1 rfl (.inr ⟨⟨w7.heap.size, 0, none⟩, 1, rfl, lies_block (heap_alloc_new w7 _)⟩) (by omega) (Below.size (Below.alloc HB7.out (Below.size HB7.out) (.cells #[.int .i64 x1, .slice A9 0 c9] 39))) ?_
              intro v8 w8 ho8 hg8 hat8
              have hb8 : Below W2.heap.size W2 w8 := Below.grown (Below.alloc HB7.out (Below.size HB7.out) (.cells #[.int .i64 x1, .slice A9 0 c9] 39)) hg8 (Below.size (Below.alloc HB7.out (Below.size HB7.out) (.cells #[.int .i64 x1, .slice A9 0 c9] 39))) (fun kk hk => Gn.own_block HO7.out kk hk)
              obtain ⟨A8, c8, hv8, hts8⟩ := row_done HFL.out (HPF.out w8 hb8) (HTR.out w8 hb8) ho8 HZ2.out
              rw [← HST2.out] at hv8 hts8
              subst hv8
              have HTS8 := Lib.hid hts8
              have HB8 := Lib.hid hb8
              clear ho8 hg8 hat8 hb8 hts8
              refine hK.out _ _ (HMK2.out _ HB8.out) (fun hHeld => ?_)
              clear hK K
              try simp only [Act.put, List.setIfInBounds_toArray, List.set_cons_zero, List.set_cons_succ]
              refine wpAnyH_ready (rs := [11]) (by kernel_rfl) (by simp) ?_
              refine AllReadyH.cons rfl (fun K hK => ?_) AllReadyH.nil
              go_simp
              refine hK.out _ _ (hHeld) (fun hHeld => ?_)
              clear hK K
              try simp only [Act.put, List.setIfInBounds_toArray, List.set_cons_zero, List.set_cons_succ]
              refine wpAnyH_done (by kernel_rfl) ?_ _
              refine NoPanic.normal ?_
              go_wp2_with fail
              go_roundw
              case rel => exact ⟨j + 1, A8, c8, st2, by omega, by go_num, rfl, fun h9 => absurd h9 (by have := HL2.out; omega), HTS8.out, HN2.out, by have := HL2.out; omega, HF2.out, HBW.out.trans ((HB2.out.mono (by have := HTB.out; have := HBW.out.size; omega)).trans (HB8.out.mono (by have := HBW.out.size; have := HB2.out.size; omega))), (HB8.out.block _ (Gn.heap_lt HBX2.out)).trans HBX2.out⟩
              case measure => simp [intOf]; omega
            refine AllReadyH.cons rfl (fun K hK => ?_) AllReadyH.nil
            · go_simp
              refine hK.out _ _ (HMK2.out _ (Below.alloc (Below.alloc (Gn.below_drew (Below.refl W2.heap.size W2)) (Below.size (Gn.below_drew (Below.refl W2.heap.size W2))) (.cells #[] 39)) (Below.size (Below.alloc (Gn.below_drew (Below.refl W2.heap.size W2)) (Below.size (Gn.below_drew (Below.refl W2.heap.size W2))) (.cells #[] 39))) (.cells #[.int .i64 x1, .slice A9 0 c9] 39))) (fun hHeld => ?_)
              clear hK K
              try simp only [Act.put, List.setIfInBounds_toArray, List.set_cons_zero, List.set_cons_succ]
              refine wpAnyH_ready (rs := [7]) (by kernel_rfl) (by simp) ?_
              refine AllReadyH.cons rfl (fun K hK => ?_) AllReadyH.nil
              refine step_append_pairs _ (by rfl) (.tmp 45) (.tmp 51) (by rfl) W2.heap.size (.slice (some ⟨W2.heap.size, 0, none⟩) 0 0) 0 [] rfl (World.ownsRow.alloc (World.ownsRow_made (base := W2.heap.size) W2.drew #[] 0 (Nat.le_refl _) (by decide) (by simp)) _) (HPF.out _ (Below.alloc (Below.alloc (Gn.below_drew (Below.refl W2.heap.size W2)) (Below.size (Gn.below_drew (Below.refl W2.heap.size W2))) (.cells #[] 39)) (Below.size (Below.alloc (Gn.below_drew (Below.refl W2.heap.size W2)) (Below.size (Gn.below_drew (Below.refl W2.heap.size W2))) (.cells #[] 39))) (.cells #[.int .i64 x1, .slice A9 0 c9] 39))) _ rfl 0 HFL.out (HL6.out _ (Below.alloc (Below.alloc (Gn.below_drew (Below.refl W2.heap.size W2)) (Below.size (Gn.below_drew (Below.refl W2.heap.size W2))) (.cells #[] 39)) (Below.size (Below.alloc (Gn.below_drew (Below.refl W2.heap.size W2)) (Below.size (Gn.below_drew (Below.refl W2.heap.size W2))) (.cells #[] 39))) (.cells #[.int .i64 x1, .slice A9 0 c9] 39))) (by omega) (Below.size (Below.alloc (Below.alloc (Gn.below_drew (Below.refl W2.heap.size W2)) (Below.size (Gn.below_drew (Below.refl W2.heap.size W2))) (.cells #[] 39)) (Below.size (Below.alloc (Gn.below_drew (Below.refl W2.heap.size W2)) (Below.size (Gn.below_drew (Below.refl W2.heap.size W2))) (.cells #[] 39))) (.cells #[.int .i64 x1, .slice A9 0 c9] 39))) ?_
              intro v7 w7 ho7 hg7 hat7
              have hb7 : Below W2.heap.size W2 w7 := Below.grown (Below.alloc (Below.alloc (Gn.below_drew (Below.refl W2.heap.size W2)) (Below.size (Gn.below_drew (Below.refl W2.heap.size W2))) (.cells #[] 39)) (Below.size (Below.alloc (Gn.below_drew (Below.refl W2.heap.size W2)) (Below.size (Gn.below_drew (Below.refl W2.heap.size W2))) (.cells #[] 39))) (.cells #[.int .i64 x1, .slice A9 0 c9] 39)) hg7 (Below.size (Below.alloc (Below.alloc (Gn.below_drew (Below.refl W2.heap.size W2)) (Below.size (Gn.below_drew (Below.refl W2.heap.size W2))) (.cells #[] 39)) (Below.size (Below.alloc (Gn.below_drew (Below.refl W2.heap.size W2)) (Below.size (Gn.below_drew (Below.refl W2.heap.size W2))) (.cells #[] 39))) (.cells #[.int .i64 x1, .slice A9 0 c9] 39))) (fun kk hk => by injection hk with hk; simp at hk; omega)
              have HO7 := Lib.hid ho7
              have HB7 := Lib.hid hb7
              have h9r : w7.heap[W2.heap.size + 1]? = some (.cells #[.int .i64 x1, .slice A9 0 c9] 39 (0, 0)) := (hg7.block (W2.heap.size + 1) (by simp <;> omega) (fun e => by injection e with e; simp at e)).trans (Fx.heap_new _ _ _ (by simp))
              have H9R := Lib.hid h9r
              clear h9r
              clear ho7 hg7 hat7 hb7
              refine hK.out _ _ (HMK2.out _ HB7.out) (fun hHeld => ?_)
              clear hK K
              try simp only [Act.put, List.setIfInBounds_toArray, List.set_cons_zero, List.set_cons_succ]
              refine wpAnyH_ready (rs := [10]) (by kernel_rfl) (by simp) ?_
              refine AllReadyH.cons rfl (fun K hK => ?_) AllReadyH.nil
              refine step_append_pairs _ (by rfl) (.tmp 52) (.tmp 54) (by rfl) W2.heap.size v7 (0 + 0) ([] ++ cells2 (vs.take 0)) rfl HO7.out (PairsAt.one (HTR.out _ HB7.out)) _ rfl 1 rfl (.inr ⟨⟨W2.heap.size + 1, 0, none⟩, 1, rfl, lies_block H9R.out⟩) (by omega) (Below.size HB7.out) ?_
              intro v8 w8 ho8 hg8 hat8
              have hb8 : Below W2.heap.size W2 w8 := Below.grown HB7.out hg8 (Below.size HB7.out) (fun kk hk => Gn.own_block HO7.out kk hk)
              obtain ⟨A8, c8, hv8, hts8⟩ := row_done HFL.out (HPF.out w8 hb8) (HTR.out w8 hb8) ho8 HZ2.out
              rw [← HST2.out] at hv8 hts8
              subst hv8
              have HTS8 := Lib.hid hts8
              have HB8 := Lib.hid hb8
              clear ho8 hg8 hat8 hb8 hts8
              refine hK.out _ _ (HMK2.out _ HB8.out) (fun hHeld => ?_)
              clear hK K
              try simp only [Act.put, List.setIfInBounds_toArray, List.set_cons_zero, List.set_cons_succ]
              refine wpAnyH_ready (rs := [11]) (by kernel_rfl) (by simp) ?_
              refine AllReadyH.cons rfl (fun K hK => ?_) AllReadyH.nil
              go_simp
              refine hK.out _ _ (hHeld) (fun hHeld => ?_)
              clear hK K
              try simp only [Act.put, List.setIfInBounds_toArray, List.set_cons_zero, List.set_cons_succ]
              refine wpAnyH_done (by kernel_rfl) ?_ _
              refine NoPanic.normal ?_
              go_wp2_with fail
              go_roundw
              case rel => exact ⟨j + 1, A8, c8, st2, by omega, by go_num, rfl, fun h9 => absurd h9 (by have := HL2.out; omega), HTS8.out, HN2.out, by have := HL2.out; omega, HF2.out, HBW.out.trans ((HB2.out.mono (by have := HTB.out; have := HBW.out.size; omega)).trans (HB8.out.mono (by have := HBW.out.size; have := HB2.out.size; omega))), (HB8.out.block _ (Gn.heap_lt HBX2.out)).trans HBX2.out⟩
              case measure => simp [intOf]; omega
          refine AllReadyH.cons rfl (fun K hK => ?_) AllReadyH.nil
          · go_simp
            refine hK.out _ _ (HMK2.out _ (Below.alloc (Gn.below_drew (Below.refl W2.heap.size W2)) (Below.size (Gn.below_drew (Below.refl W2.heap.size W2))) (.cells #[.int .i64 x1, .slice A9 0 c9] 39))) (fun hHeld => ?_)
            clear hK K
            try simp only [Act.put, List.setIfInBounds_toArray, List.set_cons_zero, List.set_cons_succ]
            refine wpAnyH_ready (rs := [0]) (by kernel_rfl) (by simp) ?_
            refine AllReadyH.cons rfl (fun K hK => ?_) AllReadyH.nil
            go_simp
            refine hK.out _ _ (HMK2.out _ (Below.alloc (Below.alloc (Gn.below_drew (Below.refl W2.heap.size W2)) (Below.size (Gn.below_drew (Below.refl W2.heap.size W2))) (.cells #[.int .i64 x1, .slice A9 0 c9] 39)) (Below.size (Below.alloc (Gn.below_drew (Below.refl W2.heap.size W2)) (Below.size (Gn.below_drew (Below.refl W2.heap.size W2))) (.cells #[.int .i64 x1, .slice A9 0 c9] 39))) (.cells #[] 39))) (fun hHeld => ?_)
            clear hK K
            try simp only [Act.put, List.setIfInBounds_toArray, List.set_cons_zero, List.set_cons_succ]
            refine wpAnyH_ready (rs := [7]) (by kernel_rfl) (by simp) ?_
            refine AllReadyH.cons rfl (fun K hK => ?_) AllReadyH.nil
            have hOB : ((W2.alloc (.cells #[.int .i64 x1, .slice A9 0 c9] 39)).alloc (.cells #[] 39)).drew.ownsRow W2.heap.size 39 2 (.slice (some ⟨W2.heap.size + 1, 0, none⟩) 0 0) 0 [] := by have h9 := World.ownsRow_made (base := W2.heap.size) (e := 39) (size := 2) (W2.alloc (.cells #[.int .i64 x1, .slice A9 0 c9] 39)) #[] 0 (by simp) (by decide) (by simp); rw [Gn.size_alloc'] at h9; exact h9
            refine step_append_pairs _ (by rfl) (.tmp 45) (.tmp 51) (by rfl) W2.heap.size (.slice (some ⟨W2.heap.size + 1, 0, none⟩) 0 0) 0 [] rfl hOB (HPF.out _ (Below.alloc (Below.alloc (Gn.below_drew (Below.refl W2.heap.size W2)) (Below.size (Gn.below_drew (Below.refl W2.heap.size W2))) (.cells #[.int .i64 x1, .slice A9 0 c9] 39)) (Below.size (Below.alloc (Gn.below_drew (Below.refl W2.heap.size W2)) (Below.size (Gn.below_drew (Below.refl W2.heap.size W2))) (.cells #[.int .i64 x1, .slice A9 0 c9] 39))) (.cells #[] 39))) _ rfl 0 HFL.out (HL6.out _ (Below.alloc (Below.alloc (Gn.below_drew (Below.refl W2.heap.size W2)) (Below.size (Gn.below_drew (Below.refl W2.heap.size W2))) (.cells #[.int .i64 x1, .slice A9 0 c9] 39)) (Below.size (Below.alloc (Gn.below_drew (Below.refl W2.heap.size W2)) (Below.size (Gn.below_drew (Below.refl W2.heap.size W2))) (.cells #[.int .i64 x1, .slice A9 0 c9] 39))) (.cells #[] 39))) (by omega) (Below.size (Below.alloc (Below.alloc (Gn.below_drew (Below.refl W2.heap.size W2)) (Below.size (Gn.below_drew (Below.refl W2.heap.size W2))) (.cells #[.int .i64 x1, .slice A9 0 c9] 39)) (Below.size (Below.alloc (Gn.below_drew (Below.refl W2.heap.size W2)) (Below.size (Gn.below_drew (Below.refl W2.heap.size W2))) (.cells #[.int .i64 x1, .slice A9 0 c9] 39))) (.cells #[] 39))) ?_
            intro v7 w7 ho7 hg7 hat7
            have hb7 : Below W2.heap.size W2 w7 := Below.grown (Below.alloc (Below.alloc (Gn.below_drew (Below.refl W2.heap.size W2)) (Below.size (Gn.below_drew (Below.refl W2.heap.size W2))) (.cells #[.int .i64 x1, .slice A9 0 c9] 39)) (Below.size (Below.alloc (Gn.below_drew (Below.refl W2.heap.size W2)) (Below.size (Gn.below_drew (Below.refl W2.heap.size W2))) (.cells #[.int .i64 x1, .slice A9 0 c9] 39))) (.cells #[] 39)) hg7 (Below.size (Below.alloc (Below.alloc (Gn.below_drew (Below.refl W2.heap.size W2)) (Below.size (Gn.below_drew (Below.refl W2.heap.size W2))) (.cells #[.int .i64 x1, .slice A9 0 c9] 39)) (Below.size (Below.alloc (Gn.below_drew (Below.refl W2.heap.size W2)) (Below.size (Gn.below_drew (Below.refl W2.heap.size W2))) (.cells #[.int .i64 x1, .slice A9 0 c9] 39))) (.cells #[] 39))) (fun kk hk => by injection hk with hk; simp at hk; omega)
            have HO7 := Lib.hid ho7
            have HB7 := Lib.hid hb7
            have h9r : w7.heap[W2.heap.size]? = some (.cells #[.int .i64 x1, .slice A9 0 c9] 39 (0, 0)) := (hg7.block (W2.heap.size) (by simp <;> omega) (fun e => by injection e with e; simp at e)).trans ((heap_alloc_old _ _ (by simp)).trans (heap_alloc_new _ _))
            have H9R := Lib.hid h9r
            clear h9r
            clear ho7 hg7 hat7 hb7
            refine hK.out _ _ (HMK2.out _ HB7.out) (fun hHeld => ?_)
            clear hK K
            try simp only [Act.put, List.setIfInBounds_toArray, List.set_cons_zero, List.set_cons_succ]
            refine wpAnyH_ready (rs := [10]) (by kernel_rfl) (by simp) ?_
            refine AllReadyH.cons rfl (fun K hK => ?_) AllReadyH.nil
            refine step_append_pairs _ (by rfl) (.tmp 52) (.tmp 54) (by rfl) W2.heap.size v7 (0 + 0) ([] ++ cells2 (vs.take 0)) rfl HO7.out (PairsAt.one (HTR.out _ HB7.out)) _ rfl 1 rfl (.inr ⟨⟨W2.heap.size, 0, none⟩, 1, rfl, lies_block H9R.out⟩) (by omega) (Below.size HB7.out) ?_
            intro v8 w8 ho8 hg8 hat8
            have hb8 : Below W2.heap.size W2 w8 := Below.grown HB7.out hg8 (Below.size HB7.out) (fun kk hk => Gn.own_block HO7.out kk hk)
            obtain ⟨A8, c8, hv8, hts8⟩ := row_done HFL.out (HPF.out w8 hb8) (HTR.out w8 hb8) ho8 HZ2.out
            rw [← HST2.out] at hv8 hts8
            subst hv8
            have HTS8 := Lib.hid hts8
            have HB8 := Lib.hid hb8
            clear ho8 hg8 hat8 hb8 hts8
            refine hK.out _ _ (HMK2.out _ HB8.out) (fun hHeld => ?_)
            clear hK K
            try simp only [Act.put, List.setIfInBounds_toArray, List.set_cons_zero, List.set_cons_succ]
            refine wpAnyH_ready (rs := [11]) (by kernel_rfl) (by simp) ?_
            refine AllReadyH.cons rfl (fun K hK => ?_) AllReadyH.nil
            go_simp
            refine hK.out _ _ (hHeld) (fun hHeld => ?_)
            clear hK K
            try simp only [Act.put, List.setIfInBounds_toArray, List.set_cons_zero, List.set_cons_succ]
            refine wpAnyH_done (by kernel_rfl) ?_ _
            refine NoPanic.normal ?_
            go_wp2_with fail
            go_roundw
            case rel => exact ⟨j + 1, A8, c8, st2, by omega, by go_num, rfl, fun h9 => absurd h9 (by have := HL2.out; omega), HTS8.out, HN2.out, by have := HL2.out; omega, HF2.out, HBW.out.trans ((HB2.out.mono (by have := HTB.out; have := HBW.out.size; omega)).trans (HB8.out.mono (by have := HBW.out.size; have := HB2.out.size; omega))), (HB8.out.block _ (Gn.heap_lt HBX2.out)).trans HBX2.out⟩
            case measure => simp [intOf]; omega
        · obtain ⟨rfl, hq1, hq2⟩ := hq0 (by omega)
          have HLX := Lib.hid (fun (w : World) (bw : Below wc.heap.size wc w) => (show (o = 0 ∧ Value.slice (some ⟨q0, 0, none⟩) o cs = Value.slice none 0 0) ∨ ∃ ad c, Value.slice (some ⟨q0, 0, none⟩) o cs = Value.slice (some ad) o c ∧ LiesAt w ad (vs.take o) from .inr ⟨_, _, rfl, by have := src_at HVC.out hq1 bw 0 o; rw [List.drop_zero, Nat.zero_mul] at this; exact this⟩))
          have hlies := fun (w : World) (bw : Below V1.heap.size V1 w) => src_at HVC.out hq1 (HB1.out.trans (bw.mono HB1.out.size)) o k
          have hvd : (vs.drop o).take k = vs.drop o := List.take_of_length_le (by rw [(HPR.out.drop o).1, HDL.out]; exact Nat.le_refl _)
          rw [hvd] at hlies
          by_cases hoc : o = cs
          · have hk0 : k = 0 := by omega
            subst hoc
            have HL9 := Lib.hid (fun (w : World) (bw : Below V1.heap.size V1 w) => (show (k = 0 ∧ Value.slice (some ⟨q0, 0, none⟩) k 0 = Value.slice none 0 0) ∨ ∃ ad c, Value.slice (some ⟨q0, 0, none⟩) k 0 = Value.slice (some ad) k c ∧ LiesAt w ad (vs.drop o) from .inr ⟨_, _, rfl, by
              have e : vs.drop o = [] := List.eq_nil_of_length_eq_zero (by rw [(HPR.out.drop o).1, HDL.out]; exact hk0)
              rw [e]; exact lies_none⟩))
            clear hlies hvd hk0
            refine wp_region_noPanic ?_
            refine wp_region_held_drew (S := (fun _ : World => True)) (by kernel_rfl) ?_ (fun hHeld => ?_)
            · exact trivial
            refine wpAnyH_take (i := 0) (v := ?_) rfl (by kernel_rfl) (by kernel_rfl) (by kernel_rfl) (fun _ _ _ h => h) (Or.inl ⟨by rfl, ?_⟩) (by assumption) ?_
            rotate_left
            · intro w hSw
              try dsimp only at hSw
              go_simp
              try with_reducible rfl
            try simp only [Act.put, List.setIfInBounds_toArray, List.set_cons_zero, List.set_cons_succ]
            refine wpAnyH_take (i := 2) (v := ?_) rfl (by kernel_rfl) (by kernel_rfl) (by kernel_rfl) (fun _ _ _ h => h) (Or.inl ⟨by rfl, ?_⟩) (by assumption) ?_
            rotate_left
            · intro w hSw
              try dsimp only at hSw
              go_simp
              try with_reducible rfl
            try simp only [Act.put, List.setIfInBounds_toArray, List.set_cons_zero, List.set_cons_succ]
            refine wpAnyH_take (i := 3) (v := ?_) rfl (by kernel_rfl) (by kernel_rfl) (by kernel_rfl) (fun _ _ _ h => h) (Or.inl ⟨by rfl, ?_⟩) (by assumption) ?_
            rotate_left
            · intro w hSw
              try dsimp only at hSw
              go_simp
              try with_reducible rfl
            try simp only [Act.put, List.setIfInBounds_toArray, List.set_cons_zero, List.set_cons_succ]
            refine wpAnyH_take (i := 4) (v := ?_) rfl (by kernel_rfl) (by kernel_rfl) (by kernel_rfl) (fun _ _ _ h => h) (Or.inl ⟨by rfl, ?_⟩) (by assumption) ?_
            rotate_left
            · intro w hSw
              try dsimp only at hSw
              go_simp
              try with_reducible rfl
            try simp only [Act.put, List.setIfInBounds_toArray, List.set_cons_zero, List.set_cons_succ]
            refine wpAnyH_take (i := 5) (v := ?_) rfl (by kernel_rfl) (by kernel_rfl) (by kernel_rfl) (fun _ _ _ h => h) (Or.inl ⟨by rfl, ?_⟩) (by assumption) ?_
            rotate_left
            · intro w hSw
              try dsimp only at hSw
              go_simp
              try with_reducible rfl
            try simp only [Act.put, List.setIfInBounds_toArray, List.set_cons_zero, List.set_cons_succ]
            refine wpAnyH_take (i := 6) (v := ?_) rfl (by kernel_rfl) (by kernel_rfl) (by kernel_rfl) (fun _ _ _ h => h) (Or.inl ⟨by rfl, ?_⟩) (by assumption) ?_
            rotate_left
            · intro w hSw
              try dsimp only at hSw
              go_simp
              try with_reducible rfl
            try simp only [Act.put, List.setIfInBounds_toArray, List.set_cons_zero, List.set_cons_succ]
            refine wpAnyH_take (i := 7) (v := ?_) rfl (by kernel_rfl) (by kernel_rfl) (by kernel_rfl) (fun _ _ _ h => h) (Or.inl ⟨by rfl, ?_⟩) (by assumption) ?_
            rotate_left
            · intro w hSw
              try dsimp only at hSw
              go_simp
              try with_reducible rfl
            try simp only [Act.put, List.setIfInBounds_toArray, List.set_cons_zero, List.set_cons_succ]
            refine wpAnyH_ready (rs := [1]) (by kernel_rfl) (by simp) ?_
            refine AllReadyH.cons rfl (fun K hK => ?_) AllReadyH.nil
            go_simp
            refine hK.out _ _ (trivial) (fun hHeld => ?_)
            clear hK K
            try simp only [Act.put, List.setIfInBounds_toArray, List.set_cons_zero, List.set_cons_succ]
            refine wpAnyH_ready (rs := [8]) (by kernel_rfl) (by simp) ?_
            refine AllReadyH.cons rfl (fun K hK => ?_) AllReadyH.nil
            refine step_append_pairs _ (by rfl) (.tmp 36) (.tmp 42) (by rfl) V1.heap.size (.slice none 0 0) 0 [] (by simp [Act.eval]) (World.ownsRow_nil _ _ _ _) (HPD.out _ (by first | exact Gn.below_drew (Below.refl _ _))) _ rfl k HDL.out (HL9.out _ (by first | exact Gn.below_drew (Below.refl _ _))) (by omega) (by first | exact Nat.le_refl _ | simp) ?_
            intro v9 w9 ho9 hg9 hat9
            have hb9 : Below V1.heap.size V1 w9 := Below.grown (by first | exact Gn.below_drew (Below.refl _ _)) hg9 (by first | exact Nat.le_refl _ | simp) (fun kk hk => by cases hk)
            rw [Nat.zero_add, List.nil_append] at ho9
            obtain ⟨A9, c9, rfl⟩ := Gn.slice_of ho9
            have HO9 := Lib.hid ho9
            have HB9 := Lib.hid hb9
            have d9 : w9.cell? ⟨wc.heap.size, 1, none⟩ = some (.slice none 0 0) := cell_of_row _ _ 1 _ _ (0, 0) ((hb9.block _ (Gn.heap_lt HT1.out)).trans HT1.out)
            have df9 := Gn.frozen_row ((hb9.block _ (Gn.heap_lt HT1.out)).trans HT1.out) 1
            clear ho9 hg9 hat9 hb9
            refine hK.out _ _ (trivial) (fun hHeld => ?_)
            clear hK K
            try simp only [Act.put, List.setIfInBounds_toArray, List.set_cons_zero, List.set_cons_succ]
            refine wpAnyH_take (i := 9) (v := ?_) rfl (by kernel_rfl) (by kernel_rfl) (by kernel_rfl) (fun _ _ _ h => h) (Or.inl ⟨by rfl, ?_⟩) (by assumption) ?_
            rotate_left
            · intro w hSw
              try dsimp only at hSw
              go_simp
              try with_reducible rfl
            try simp only [Act.put, List.setIfInBounds_toArray, List.set_cons_zero, List.set_cons_succ]
            refine wpAnyH_ready (rs := [10]) (by kernel_rfl) (by simp) ?_
            refine AllReadyH.cons rfl (fun K hK => ?_) AllReadyH.nil
            go_simp
            refine hK.out _ _ (trivial) (fun hHeld => ?_)
            clear hK K
            try simp only [Act.put, List.setIfInBounds_toArray, List.set_cons_zero, List.set_cons_succ]
            refine wpAnyH_done (by kernel_rfl) ?_ _
            refine NoPanic.normal ?_
            go_upto_region 10 with fail
            obtain ⟨W2, hW2⟩ : ∃ W2, W2 = w9.setCell ⟨wc.heap.size, 1, none⟩ (.slice A9 k c9) := ⟨_, rfl⟩
            have hb19 : Below wc.heap.size wc w9 := (by rw [HTB.out]; exact HB1.out.trans (HB9.out.mono HB1.out.size))
            have hb2 : Below wc.heap.size wc W2 := by rw [hW2]; exact hb19.setCell (Nat.le_refl _) _
            have ht2 : W2.heap[wc.heap.size]? = some (.cells #[.int .i64 x1, .slice A9 k c9] 39 (0, 0)) := by
              rw [hW2]
              exact Gn.heap_set ((HB9.out.block _ (Gn.heap_lt HT1.out)).trans HT1.out) 1 _
            have hz2 : V1.heap.size ≤ W2.heap.size := by rw [hW2]; simpa [World.setCell] using HB9.out.size
            have ho2 : W2.ownsRow V1.heap.size 39 2 (.slice A9 k c9) k (cells2 (vs.drop o)) := by
              rw [hW2]
              exact ownsRow_setCell_below HO9.out (by show wc.heap.size < _; have := HZ1.out; omega) _
            have htz := HTB.out
            have hz1 := HZ1.out
            have hpd2 : PairsAt lo W2.heap.size W2 (st.drop o) (vs.drop o) := ⟨(HPR.out.drop o).1, fun i h1 h2 => ((HPR.out.drop o).2 i h1 h2).keep (by omega) fun r hr hz => ⟨⟨hr.1, by omega⟩, fun x => Gn.cell_same (hb2.block r (by omega)) x⟩⟩
            have hpf : PairsAt lo W2.heap.size W2 (st.take o) (vs.take o) := ⟨(HPR.out.take o).1, fun i h1 h2 => ((HPR.out.take o).2 i h1 h2).keep (by omega) fun r hr hz => ⟨⟨hr.1, by omega⟩, fun x => Gn.cell_same (hb2.block r (by omega)) x⟩⟩
            have hkids : TrsAt (fun r => lo ≤ r) W2 (st.drop o) (.slice A9 k c9) := PairsAt.trs hpd2 (by rw [HDL.out]; exact ho2) (by omega)
            have htree := tr_low (hkids.tree x1)
            have HTR := Lib.hid (fun (w : World) (bw : Below W2.heap.size W2 w) => (htree.under bw))
            have HPF := Lib.hid (fun (w : World) (bw : Below W2.heap.size W2 w) => hpf.keep bw.size fun r _ h9 _ => bw.block r h9)
            have HMK2 := Lib.hid (fun (w' : World) (bw : Below W2.heap.size W2 w') => show (fun w' : World => w'.cell? ⟨wc.heap.size, 0, none⟩ = some (.int .i64 x1) ∧ w'.cell? ⟨wc.heap.size, 1, none⟩ = some (.slice A9 k c9)) w' from ⟨cell_of_row _ _ 0 _ _ (0, 0) ((bw.block _ (Gn.heap_lt ht2)).trans ht2), cell_of_row _ _ 1 _ _ (0, 0) ((bw.block _ (Gn.heap_lt ht2)).trans ht2)⟩)
            have HL6 := Lib.hid (fun (w : World) (bw : Below W2.heap.size W2 w) => HLX.out w (((by rw [← HTB.out]; exact hb2 : Below wc.heap.size wc W2)).trans (bw.mono (by omega))))
            have HB2 := Lib.hid hb2
            have HW2 := Lib.hid hW2
            have HZ2 := Lib.hid (show lo ≤ W2.heap.size by omega)
            have HBX2 := Lib.hid ((hb2.block _ (by rw [HTB.out]; exact Gn.heap_lt HBX.out)).trans HBX.out)
            clear hW2 hb19 hb2 ht2 hz2 ho2 hpd2 hkids htree hpf d9 df9 htz hz1
            rw [← HW2.out]
            refine wp_region_noPanic ?_
            refine wp_region_held_drew (S := (fun w' : World => w'.cell? ⟨wc.heap.size, 0, none⟩ = some (.int .i64 x1) ∧ w'.cell? ⟨wc.heap.size, 1, none⟩ = some (.slice A9 k c9))) (by kernel_rfl) ?_ (fun hHeld => ?_)
            · exact HMK2.out _ (Gn.below_drew (Below.refl W2.heap.size W2))
            refine wpAnyH_take (i := 1) (v := ?_) rfl (by kernel_rfl) (by kernel_rfl) (by kernel_rfl) (fun _ _ _ h => h) (Or.inl ⟨by rfl, ?_⟩) (by assumption) ?_
            rotate_left
            · intro w hSw
              try dsimp only at hSw
              go_simp
              try with_reducible rfl
            try simp only [Act.put, List.setIfInBounds_toArray, List.set_cons_zero, List.set_cons_succ]
            refine wpAnyH_take (i := 2) (v := ?_) rfl (by kernel_rfl) (by kernel_rfl) (by kernel_rfl) (fun _ _ _ h => h) (Or.inl ⟨by rfl, ?_⟩) (by assumption) ?_
            rotate_left
            · intro w hSw
              try dsimp only at hSw
              go_simp
              try with_reducible rfl
            try simp only [Act.put, List.setIfInBounds_toArray, List.set_cons_zero, List.set_cons_succ]
            refine wpAnyH_take (i := 3) (v := ?_) rfl (by kernel_rfl) (by kernel_rfl) (by kernel_rfl) (fun _ _ _ h => h) (Or.inl ⟨by rfl, ?_⟩) (by assumption) ?_
            rotate_left
            · intro w hSw
              try dsimp only at hSw
              go_simp
              try with_reducible rfl
            try simp only [Act.put, List.setIfInBounds_toArray, List.set_cons_zero, List.set_cons_succ]
            refine wpAnyH_take (i := 4) (v := ?_) rfl (by kernel_rfl) (by kernel_rfl) (by kernel_rfl) (fun _ _ _ h => h) (Or.inl ⟨by rfl, ?_⟩) (by assumption) ?_
            rotate_left
            · intro w hSw
              try dsimp only at hSw
              go_simp
              try with_reducible rfl
            try simp only [Act.put, List.setIfInBounds_toArray, List.set_cons_zero, List.set_cons_succ]
            refine wpAnyH_take (i := 5) (v := ?_) rfl (by kernel_rfl) (by kernel_rfl) (by kernel_rfl) (fun _ _ _ h => h) (Or.inl ⟨by rfl, ?_⟩) (by assumption) ?_
            rotate_left
            · intro w hSw
              try dsimp only at hSw
              go_simp
              try with_reducible rfl
            try simp only [Act.put, List.setIfInBounds_toArray, List.set_cons_zero, List.set_cons_succ]
            refine wpAnyH_take (i := 6) (v := ?_) rfl (by kernel_rfl) (by kernel_rfl) (by kernel_rfl) (fun _ _ _ h => h) (Or.inl ⟨by rfl, ?_⟩) (by assumption) ?_
            rotate_left
            · intro w hSw
              try dsimp only at hSw
              go_simp
              try with_reducible rfl
            try simp only [Act.put, List.setIfInBounds_toArray, List.set_cons_zero, List.set_cons_succ]
            refine wpAnyH_take (i := 8) (v := ?_) rfl (by kernel_rfl) (by kernel_rfl) (by kernel_rfl) (fun _ _ _ h => h) (Or.inl ⟨by rfl, ?_⟩) (by assumption) ?_
            rotate_left
            · intro w hSw
              try dsimp only at hSw
              go_simp
              try with_reducible rfl
            try simp only [Act.put, List.setIfInBounds_toArray, List.set_cons_zero, List.set_cons_succ]
            refine wpAnyH_ready (rs := [0, 9]) (by kernel_rfl) (by simp) ?_
            refine AllReadyH.cons rfl (fun K hK => ?_) ?_
            · go_simp
              refine hK.out _ _ (HMK2.out _ (Below.alloc (Gn.below_drew (Below.refl W2.heap.size W2)) (Below.size (Gn.below_drew (Below.refl W2.heap.size W2))) (.cells #[] 39))) (fun hHeld => ?_)
              clear hK K
              try simp only [Act.put, List.setIfInBounds_toArray, List.set_cons_zero, List.set_cons_succ]
              refine wpAnyH_ready (rs := [7, 9]) (by kernel_rfl) (by simp) ?_
              refine AllReadyH.cons rfl (fun K hK => ?_) ?_
              · refine step_append_pairs _ (by rfl) (.tmp 45) (.tmp 51) (by rfl) W2.heap.size (.slice (some ⟨W2.heap.size, 0, none⟩) 0 0) 0 [] rfl (World.ownsRow_made (base := W2.heap.size) W2.drew #[] 0 (Nat.le_refl _) (by decide) (by simp)) (HPF.out _ (Below.alloc (Gn.below_drew (Below.refl W2.heap.size W2)) (Below.size (Gn.below_drew (Below.refl W2.heap.size W2))) (.cells #[] 39))) _ rfl o HFL.out (HL6.out _ (Below.alloc (Gn.below_drew (Below.refl W2.heap.size W2)) (Below.size (Gn.below_drew (Below.refl W2.heap.size W2))) (.cells #[] 39))) (by omega) (Below.size (Below.alloc (Gn.below_drew (Below.refl W2.heap.size W2)) (Below.size (Gn.below_drew (Below.refl W2.heap.size W2))) (.cells #[] 39))) ?_
                intro v7 w7 ho7 hg7 hat7
                have hb7 : Below W2.heap.size W2 w7 := Below.grown (Below.alloc (Gn.below_drew (Below.refl W2.heap.size W2)) (Below.size (Gn.below_drew (Below.refl W2.heap.size W2))) (.cells #[] 39)) hg7 (Below.size (Below.alloc (Gn.below_drew (Below.refl W2.heap.size W2)) (Below.size (Gn.below_drew (Below.refl W2.heap.size W2))) (.cells #[] 39))) (fun kk hk => by injection hk with hk; simp at hk; omega)
                have HO7 := Lib.hid ho7
                have HB7 := Lib.hid hb7
                clear ho7 hg7 hat7 hb7
                refine hK.out _ _ (HMK2.out _ HB7.out) (fun hHeld => ?_)
                clear hK K
                try simp only [Act.put, List.setIfInBounds_toArray, List.set_cons_zero, List.set_cons_succ]
                refine wpAnyH_ready (rs := [9]) (by kernel_rfl) (by simp) ?_
                refine AllReadyH.cons rfl (fun K hK => ?_) AllReadyH.nil
                go_simp
                refine hK.out _ _ (HMK2.out _ (Below.alloc HB7.out (Below.size HB7.out) (.cells #[.int .i64 x1, .slice A9 k c9] 39))) (fun hHeld => ?_)
                clear hK K
                try simp only [Act.put, List.setIfInBounds_toArray, List.set_cons_zero, List.set_cons_succ]
                refine wpAnyH_ready (rs := [10]) (by kernel_rfl) (by simp) ?_
                refine AllReadyH.cons rfl (fun K hK => ?_) AllReadyH.nil
                refine step_append_pairs _ (by rfl) (.tmp 52) (.tmp 54) (by rfl) W2.heap.size v7 (0 + o) ([] ++ cells2 (vs.take o)) rfl (World.ownsRow.alloc HO7.out _) (PairsAt.one (HTR.out _ (Below.alloc HB7.out (Below.size HB7.out) (.cells #[.int .i64 x1, .slice A9 k c9] 39)))) _ rfl 1 rfl (.inr ⟨⟨w7.heap.size, 0, none⟩, 1, rfl, lies_block (heap_alloc_new w7 _)⟩) (by omega) (Below.size (Below.alloc HB7.out (Below.size HB7.out) (.cells #[.int .i64 x1, .slice A9 k c9] 39))) ?_
                intro v8 w8 ho8 hg8 hat8
                have hb8 : Below W2.heap.size W2 w8 := Below.grown (Below.alloc HB7.out (Below.size HB7.out) (.cells #[.int .i64 x1, .slice A9 k c9] 39)) hg8 (Below.size (Below.alloc HB7.out (Below.size HB7.out) (.cells #[.int .i64 x1, .slice A9 k c9] 39))) (fun kk hk => Gn.own_block HO7.out kk hk)
                obtain ⟨A8, c8, hv8, hts8⟩ := row_done HFL.out (HPF.out w8 hb8) (HTR.out w8 hb8) ho8 HZ2.out
                rw [← HST2.out] at hv8 hts8
                subst hv8
                have HTS8 := Lib.hid hts8
                have HB8 := Lib.hid hb8
                clear ho8 hg8 hat8 hb8 hts8
                refine hK.out _ _ (HMK2.out _ HB8.out) (fun hHeld => ?_)
                clear hK K
                try simp only [Act.put, List.setIfInBounds_toArray, List.set_cons_zero, List.set_cons_succ]
                refine wpAnyH_ready (rs := [11]) (by kernel_rfl) (by simp) ?_
                refine AllReadyH.cons rfl (fun K hK => ?_) AllReadyH.nil
                go_simp
                refine hK.out _ _ (hHeld) (fun hHeld => ?_)
                clear hK K
                try simp only [Act.put, List.setIfInBounds_toArray, List.set_cons_zero, List.set_cons_succ]
                refine wpAnyH_done (by kernel_rfl) ?_ _
                refine NoPanic.normal ?_
                go_wp2_with fail
                go_roundw
                case rel => exact ⟨j + 1, A8, c8, st2, by omega, by go_num, rfl, fun h9 => absurd h9 (by have := HL2.out; omega), HTS8.out, HN2.out, by have := HL2.out; omega, HF2.out, HBW.out.trans ((HB2.out.mono (by have := HTB.out; have := HBW.out.size; omega)).trans (HB8.out.mono (by have := HBW.out.size; have := HB2.out.size; omega))), (HB8.out.block _ (Gn.heap_lt HBX2.out)).trans HBX2.out⟩
                case measure => simp [intOf]; omega
              refine AllReadyH.cons rfl (fun K hK => ?_) AllReadyH.nil
              · go_simp
                refine hK.out _ _ (HMK2.out _ (Below.alloc (Below.alloc (Gn.below_drew (Below.refl W2.heap.size W2)) (Below.size (Gn.below_drew (Below.refl W2.heap.size W2))) (.cells #[] 39)) (Below.size (Below.alloc (Gn.below_drew (Below.refl W2.heap.size W2)) (Below.size (Gn.below_drew (Below.refl W2.heap.size W2))) (.cells #[] 39))) (.cells #[.int .i64 x1, .slice A9 k c9] 39))) (fun hHeld => ?_)
                clear hK K
                try simp only [Act.put, List.setIfInBounds_toArray, List.set_cons_zero, List.set_cons_succ]
                refine wpAnyH_ready (rs := [7]) (by kernel_rfl) (by simp) ?_
                refine AllReadyH.cons rfl (fun K hK => ?_) AllReadyH.nil
                refine step_append_pairs _ (by rfl) (.tmp 45) (.tmp 51) (by rfl) W2.heap.size (.slice (some ⟨W2.heap.size, 0, none⟩) 0 0) 0 [] rfl (World.ownsRow.alloc (World.ownsRow_made (base := W2.heap.size) W2.drew #[] 0 (Nat.le_refl _) (by decide) (by simp)) _) (HPF.out _ (Below.alloc (Below.alloc (Gn.below_drew (Below.refl W2.heap.size W2)) (Below.size (Gn.below_drew (Below.refl W2.heap.size W2))) (.cells #[] 39)) (Below.size (Below.alloc (Gn.below_drew (Below.refl W2.heap.size W2)) (Below.size (Gn.below_drew (Below.refl W2.heap.size W2))) (.cells #[] 39))) (.cells #[.int .i64 x1, .slice A9 k c9] 39))) _ rfl o HFL.out (HL6.out _ (Below.alloc (Below.alloc (Gn.below_drew (Below.refl W2.heap.size W2)) (Below.size (Gn.below_drew (Below.refl W2.heap.size W2))) (.cells #[] 39)) (Below.size (Below.alloc (Gn.below_drew (Below.refl W2.heap.size W2)) (Below.size (Gn.below_drew (Below.refl W2.heap.size W2))) (.cells #[] 39))) (.cells #[.int .i64 x1, .slice A9 k c9] 39))) (by omega) (Below.size (Below.alloc (Below.alloc (Gn.below_drew (Below.refl W2.heap.size W2)) (Below.size (Gn.below_drew (Below.refl W2.heap.size W2))) (.cells #[] 39)) (Below.size (Below.alloc (Gn.below_drew (Below.refl W2.heap.size W2)) (Below.size (Gn.below_drew (Below.refl W2.heap.size W2))) (.cells #[] 39))) (.cells #[.int .i64 x1, .slice A9 k c9] 39))) ?_
                intro v7 w7 ho7 hg7 hat7
                have hb7 : Below W2.heap.size W2 w7 := Below.grown (Below.alloc (Below.alloc (Gn.below_drew (Below.refl W2.heap.size W2)) (Below.size (Gn.below_drew (Below.refl W2.heap.size W2))) (.cells #[] 39)) (Below.size (Below.alloc (Gn.below_drew (Below.refl W2.heap.size W2)) (Below.size (Gn.below_drew (Below.refl W2.heap.size W2))) (.cells #[] 39))) (.cells #[.int .i64 x1, .slice A9 k c9] 39)) hg7 (Below.size (Below.alloc (Below.alloc (Gn.below_drew (Below.refl W2.heap.size W2)) (Below.size (Gn.below_drew (Below.refl W2.heap.size W2))) (.cells #[] 39)) (Below.size (Below.alloc (Gn.below_drew (Below.refl W2.heap.size W2)) (Below.size (Gn.below_drew (Below.refl W2.heap.size W2))) (.cells #[] 39))) (.cells #[.int .i64 x1, .slice A9 k c9] 39))) (fun kk hk => by injection hk with hk; simp at hk; omega)
                have HO7 := Lib.hid ho7
                have HB7 := Lib.hid hb7
                have h9r : w7.heap[W2.heap.size + 1]? = some (.cells #[.int .i64 x1, .slice A9 k c9] 39 (0, 0)) := (hg7.block (W2.heap.size + 1) (by simp <;> omega) (fun e => by injection e with e; simp at e)).trans (Fx.heap_new _ _ _ (by simp))
                have H9R := Lib.hid h9r
                clear h9r
                clear ho7 hg7 hat7 hb7
                refine hK.out _ _ (HMK2.out _ HB7.out) (fun hHeld => ?_)
                clear hK K
                try simp only [Act.put, List.setIfInBounds_toArray, List.set_cons_zero, List.set_cons_succ]
                refine wpAnyH_ready (rs := [10]) (by kernel_rfl) (by simp) ?_
                refine AllReadyH.cons rfl (fun K hK => ?_) AllReadyH.nil
                refine step_append_pairs _ (by rfl) (.tmp 52) (.tmp 54) (by rfl) W2.heap.size v7 (0 + o) ([] ++ cells2 (vs.take o)) rfl HO7.out (PairsAt.one (HTR.out _ HB7.out)) _ rfl 1 rfl (.inr ⟨⟨W2.heap.size + 1, 0, none⟩, 1, rfl, lies_block H9R.out⟩) (by omega) (Below.size HB7.out) ?_
                intro v8 w8 ho8 hg8 hat8
                have hb8 : Below W2.heap.size W2 w8 := Below.grown HB7.out hg8 (Below.size HB7.out) (fun kk hk => Gn.own_block HO7.out kk hk)
                obtain ⟨A8, c8, hv8, hts8⟩ := row_done HFL.out (HPF.out w8 hb8) (HTR.out w8 hb8) ho8 HZ2.out
                rw [← HST2.out] at hv8 hts8
                subst hv8
                have HTS8 := Lib.hid hts8
                have HB8 := Lib.hid hb8
                clear ho8 hg8 hat8 hb8 hts8
                refine hK.out _ _ (HMK2.out _ HB8.out) (fun hHeld => ?_)
                clear hK K
                try simp only [Act.put, List.setIfInBounds_toArray, List.set_cons_zero, List.set_cons_succ]
                refine wpAnyH_ready (rs := [11]) (by kernel_rfl) (by simp) ?_
                refine AllReadyH.cons rfl (fun K hK => ?_) AllReadyH.nil
                go_simp
                refine hK.out _ _ (hHeld) (fun hHeld => ?_)
                clear hK K
                try simp only [Act.put, List.setIfInBounds_toArray, List.set_cons_zero, List.set_cons_succ]
                refine wpAnyH_done (by kernel_rfl) ?_ _
                refine NoPanic.normal ?_
                go_wp2_with fail
                go_roundw
                case rel => exact ⟨j + 1, A8, c8, st2, by omega, by go_num, rfl, fun h9 => absurd h9 (by have := HL2.out; omega), HTS8.out, HN2.out, by have := HL2.out; omega, HF2.out, HBW.out.trans ((HB2.out.mono (by have := HTB.out; have := HBW.out.size; omega)).trans (HB8.out.mono (by have := HBW.out.size; have := HB2.out.size; omega))), (HB8.out.block _ (Gn.heap_lt HBX2.out)).trans HBX2.out⟩
                case measure => simp [intOf]; omega
            refine AllReadyH.cons rfl (fun K hK => ?_) AllReadyH.nil
            · go_simp
              refine hK.out _ _ (HMK2.out _ (Below.alloc (Gn.below_drew (Below.refl W2.heap.size W2)) (Below.size (Gn.below_drew (Below.refl W2.heap.size W2))) (.cells #[.int .i64 x1, .slice A9 k c9] 39))) (fun hHeld => ?_)
              clear hK K
              try simp only [Act.put, List.setIfInBounds_toArray, List.set_cons_zero, List.set_cons_succ]
              refine wpAnyH_ready (rs := [0]) (by kernel_rfl) (by simp) ?_
              refine AllReadyH.cons rfl (fun K hK => ?_) AllReadyH.nil
              go_simp
              refine hK.out _ _ (HMK2.out _ (Below.alloc (Below.alloc (Gn.below_drew (Below.refl W2.heap.size W2)) (Below.size (Gn.below_drew (Below.refl W2.heap.size W2))) (.cells #[.int .i64 x1, .slice A9 k c9] 39)) (Below.size (Below.alloc (Gn.below_drew (Below.refl W2.heap.size W2)) (Below.size (Gn.below_drew (Below.refl W2.heap.size W2))) (.cells #[.int .i64 x1, .slice A9 k c9] 39))) (.cells #[] 39))) (fun hHeld => ?_)
              clear hK K
              try simp only [Act.put, List.setIfInBounds_toArray, List.set_cons_zero, List.set_cons_succ]
              refine wpAnyH_ready (rs := [7]) (by kernel_rfl) (by simp) ?_
              refine AllReadyH.cons rfl (fun K hK => ?_) AllReadyH.nil
              have hOB : ((W2.alloc (.cells #[.int .i64 x1, .slice A9 k c9] 39)).alloc (.cells #[] 39)).drew.ownsRow W2.heap.size 39 2 (.slice (some ⟨W2.heap.size + 1, 0, none⟩) 0 0) 0 [] := by have h9 := World.ownsRow_made (base := W2.heap.size) (e := 39) (size := 2) (W2.alloc (.cells #[.int .i64 x1, .slice A9 k c9] 39)) #[] 0 (by simp) (by decide) (by simp); rw [Gn.size_alloc'] at h9; exact h9
              refine step_append_pairs _ (by rfl) (.tmp 45) (.tmp 51) (by rfl) W2.heap.size (.slice (some ⟨W2.heap.size + 1, 0, none⟩) 0 0) 0 [] rfl hOB (HPF.out _ (Below.alloc (Below.alloc (Gn.below_drew (Below.refl W2.heap.size W2)) (Below.size (Gn.below_drew (Below.refl W2.heap.size W2))) (.cells #[.int .i64 x1, .slice A9 k c9] 39)) (Below.size (Below.alloc (Gn.below_drew (Below.refl W2.heap.size W2)) (Below.size (Gn.below_drew (Below.refl W2.heap.size W2))) (.cells #[.int .i64 x1, .slice A9 k c9] 39))) (.cells #[] 39))) _ rfl o HFL.out (HL6.out _ (Below.alloc (Below.alloc (Gn.below_drew (Below.refl W2.heap.size W2)) (Below.size (Gn.below_drew (Below.refl W2.heap.size W2))) (.cells #[.int .i64 x1, .slice A9 k c9] 39)) (Below.size (Below.alloc (Gn.below_drew (Below.refl W2.heap.size W2)) (Below.size (Gn.below_drew (Below.refl W2.heap.size W2))) (.cells #[.int .i64 x1, .slice A9 k c9] 39))) (.cells #[] 39))) (by omega) (Below.size (Below.alloc (Below.alloc (Gn.below_drew (Below.refl W2.heap.size W2)) (Below.size (Gn.below_drew (Below.refl W2.heap.size W2))) (.cells #[.int .i64 x1, .slice A9 k c9] 39)) (Below.size (Below.alloc (Gn.below_drew (Below.refl W2.heap.size W2)) (Below.size (Gn.below_drew (Below.refl W2.heap.size W2))) (.cells #[.int .i64 x1, .slice A9 k c9] 39))) (.cells #[] 39))) ?_
              intro v7 w7 ho7 hg7 hat7
              have hb7 : Below W2.heap.size W2 w7 := Below.grown (Below.alloc (Below.alloc (Gn.below_drew (Below.refl W2.heap.size W2)) (Below.size (Gn.below_drew (Below.refl W2.heap.size W2))) (.cells #[.int .i64 x1, .slice A9 k c9] 39)) (Below.size (Below.alloc (Gn.below_drew (Below.refl W2.heap.size W2)) (Below.size (Gn.below_drew (Below.refl W2.heap.size W2))) (.cells #[.int .i64 x1, .slice A9 k c9] 39))) (.cells #[] 39)) hg7 (Below.size (Below.alloc (Below.alloc (Gn.below_drew (Below.refl W2.heap.size W2)) (Below.size (Gn.below_drew (Below.refl W2.heap.size W2))) (.cells #[.int .i64 x1, .slice A9 k c9] 39)) (Below.size (Below.alloc (Gn.below_drew (Below.refl W2.heap.size W2)) (Below.size (Gn.below_drew (Below.refl W2.heap.size W2))) (.cells #[.int .i64 x1, .slice A9 k c9] 39))) (.cells #[] 39))) (fun kk hk => by injection hk with hk; simp at hk; omega)
              have HO7 := Lib.hid ho7
              have HB7 := Lib.hid hb7
              have h9r : w7.heap[W2.heap.size]? = some (.cells #[.int .i64 x1, .slice A9 k c9] 39 (0, 0)) := (hg7.block (W2.heap.size) (by simp <;> omega) (fun e => by injection e with e; simp at e)).trans ((heap_alloc_old _ _ (by simp)).trans (heap_alloc_new _ _))
              have H9R := Lib.hid h9r
              clear h9r
              clear ho7 hg7 hat7 hb7
              refine hK.out _ _ (HMK2.out _ HB7.out) (fun hHeld => ?_)
              clear hK K
              try simp only [Act.put, List.setIfInBounds_toArray, List.set_cons_zero, List.set_cons_succ]
              refine wpAnyH_ready (rs := [10]) (by kernel_rfl) (by simp) ?_
              refine AllReadyH.cons rfl (fun K hK => ?_) AllReadyH.nil
              refine step_append_pairs _ (by rfl) (.tmp 52) (.tmp 54) (by rfl) W2.heap.size v7 (0 + o) ([] ++ cells2 (vs.take o)) rfl HO7.out (PairsAt.one (HTR.out _ HB7.out)) _ rfl 1 rfl (.inr ⟨⟨W2.heap.size, 0, none⟩, 1, rfl, lies_block H9R.out⟩) (by omega) (Below.size HB7.out) ?_
              intro v8 w8 ho8 hg8 hat8
              have hb8 : Below W2.heap.size W2 w8 := Below.grown HB7.out hg8 (Below.size HB7.out) (fun kk hk => Gn.own_block HO7.out kk hk)
              obtain ⟨A8, c8, hv8, hts8⟩ := row_done HFL.out (HPF.out w8 hb8) (HTR.out w8 hb8) ho8 HZ2.out
              rw [← HST2.out] at hv8 hts8
              subst hv8
              have HTS8 := Lib.hid hts8
              have HB8 := Lib.hid hb8
              clear ho8 hg8 hat8 hb8 hts8
              refine hK.out _ _ (HMK2.out _ HB8.out) (fun hHeld => ?_)
              clear hK K
              try simp only [Act.put, List.setIfInBounds_toArray, List.set_cons_zero, List.set_cons_succ]
              refine wpAnyH_ready (rs := [11]) (by kernel_rfl) (by simp) ?_
              refine AllReadyH.cons rfl (fun K hK => ?_) AllReadyH.nil
              go_simp
              refine hK.out _ _ (hHeld) (fun hHeld => ?_)
              clear hK K
              try simp only [Act.put, List.setIfInBounds_toArray, List.set_cons_zero, List.set_cons_succ]
              refine wpAnyH_done (by kernel_rfl) ?_ _
              refine NoPanic.normal ?_
              go_wp2_with fail
              go_roundw
              case rel => exact ⟨j + 1, A8, c8, st2, by omega, by go_num, rfl, fun h9 => absurd h9 (by have := HL2.out; omega), HTS8.out, HN2.out, by have := HL2.out; omega, HF2.out, HBW.out.trans ((HB2.out.mono (by have := HTB.out; have := HBW.out.size; omega)).trans (HB8.out.mono (by have := HBW.out.size; have := HB2.out.size; omega))), (HB8.out.block _ (Gn.heap_lt HBX2.out)).trans HBX2.out⟩
              case measure => simp [intOf]; omega
          · have hoc2 : ¬ cs = o := fun e => hoc e.symm
            have HL9 := Lib.hid (fun (w : World) (bw : Below V1.heap.size V1 w) => (show (k = 0 ∧ Value.slice (some ⟨q0, o * 2, none⟩) k (cs - o) = Value.slice none 0 0) ∨ ∃ ad c, Value.slice (some ⟨q0, o * 2, none⟩) k (cs - o) = Value.slice (some ad) k c ∧ LiesAt w ad (vs.drop o) from .inr ⟨_, _, rfl, hlies w bw⟩))
            clear hlies hvd
            refine wp_region_noPanic ?_
            refine wp_region_held_drew (S := (fun _ : World => True)) (by kernel_rfl) ?_ (fun hHeld => ?_)
            · exact trivial
            refine wpAnyH_take (i := 0) (v := ?_) rfl (by kernel_rfl) (by kernel_rfl) (by kernel_rfl) (fun _ _ _ h => h) (Or.inl ⟨by rfl, ?_⟩) (by assumption) ?_
            rotate_left
            · intro w hSw
              try dsimp only at hSw
              go_simp
              try with_reducible rfl
            try simp only [Act.put, List.setIfInBounds_toArray, List.set_cons_zero, List.set_cons_succ]
            refine wpAnyH_take (i := 2) (v := ?_) rfl (by kernel_rfl) (by kernel_rfl) (by kernel_rfl) (fun _ _ _ h => h) (Or.inl ⟨by rfl, ?_⟩) (by assumption) ?_
            rotate_left
            · intro w hSw
              try dsimp only at hSw
              go_simp
              try with_reducible rfl
            try simp only [Act.put, List.setIfInBounds_toArray, List.set_cons_zero, List.set_cons_succ]
            refine wpAnyH_take (i := 3) (v := ?_) rfl (by kernel_rfl) (by kernel_rfl) (by kernel_rfl) (fun _ _ _ h => h) (Or.inl ⟨by rfl, ?_⟩) (by assumption) ?_
            rotate_left
            · intro w hSw
              try dsimp only at hSw
              go_simp
              try with_reducible rfl
            try simp only [Act.put, List.setIfInBounds_toArray, List.set_cons_zero, List.set_cons_succ]
            refine wpAnyH_take (i := 4) (v := ?_) rfl (by kernel_rfl) (by kernel_rfl) (by kernel_rfl) (fun _ _ _ h => h) (Or.inl ⟨by rfl, ?_⟩) (by assumption) ?_
            rotate_left
            · intro w hSw
              try dsimp only at hSw
              go_simp
              try with_reducible rfl
            try simp only [Act.put, List.setIfInBounds_toArray, List.set_cons_zero, List.set_cons_succ]
            refine wpAnyH_take (i := 5) (v := ?_) rfl (by kernel_rfl) (by kernel_rfl) (by kernel_rfl) (fun _ _ _ h => h) (Or.inl ⟨by rfl, ?_⟩) (by assumption) ?_
            rotate_left
            · intro w hSw
              try dsimp only at hSw
              go_simp
              try with_reducible rfl
            try simp only [Act.put, List.setIfInBounds_toArray, List.set_cons_zero, List.set_cons_succ]
            refine wpAnyH_take (i := 6) (v := ?_) rfl (by kernel_rfl) (by kernel_rfl) (by kernel_rfl) (fun _ _ _ h => h) (Or.inl ⟨by rfl, ?_⟩) (by assumption) ?_
            rotate_left
            · intro w hSw
              try dsimp only at hSw
              go_simp
              try with_reducible rfl
            try simp only [Act.put, List.setIfInBounds_toArray, List.set_cons_zero, List.set_cons_succ]
            refine wpAnyH_take (i := 7) (v := ?_) rfl (by kernel_rfl) (by kernel_rfl) (by kernel_rfl) (fun _ _ _ h => h) (Or.inl ⟨by rfl, ?_⟩) (by assumption) ?_
            rotate_left
            · intro w hSw
              try dsimp only at hSw
              go_simp
              try with_reducible rfl
            try simp only [Act.put, List.setIfInBounds_toArray, List.set_cons_zero, List.set_cons_succ]
            refine wpAnyH_ready (rs := [1]) (by kernel_rfl) (by simp) ?_
            refine AllReadyH.cons rfl (fun K hK => ?_) AllReadyH.nil
            go_simp
            refine hK.out _ _ (trivial) (fun hHeld => ?_)
            clear hK K
            try simp only [Act.put, List.setIfInBounds_toArray, List.set_cons_zero, List.set_cons_succ]
            refine wpAnyH_ready (rs := [8]) (by kernel_rfl) (by simp) ?_
            refine AllReadyH.cons rfl (fun K hK => ?_) AllReadyH.nil
            refine step_append_pairs _ (by rfl) (.tmp 36) (.tmp 42) (by rfl) V1.heap.size (.slice none 0 0) 0 [] (by simp [Act.eval]) (World.ownsRow_nil _ _ _ _) (HPD.out _ (by first | exact Gn.below_drew (Below.refl _ _))) _ rfl k HDL.out (HL9.out _ (by first | exact Gn.below_drew (Below.refl _ _))) (by omega) (by first | exact Nat.le_refl _ | simp) ?_
            intro v9 w9 ho9 hg9 hat9
            have hb9 : Below V1.heap.size V1 w9 := Below.grown (by first | exact Gn.below_drew (Below.refl _ _)) hg9 (by first | exact Nat.le_refl _ | simp) (fun kk hk => by cases hk)
            rw [Nat.zero_add, List.nil_append] at ho9
            obtain ⟨A9, c9, rfl⟩ := Gn.slice_of ho9
            have HO9 := Lib.hid ho9
            have HB9 := Lib.hid hb9
            have d9 : w9.cell? ⟨wc.heap.size, 1, none⟩ = some (.slice none 0 0) := cell_of_row _ _ 1 _ _ (0, 0) ((hb9.block _ (Gn.heap_lt HT1.out)).trans HT1.out)
            have df9 := Gn.frozen_row ((hb9.block _ (Gn.heap_lt HT1.out)).trans HT1.out) 1
            clear ho9 hg9 hat9 hb9
            refine hK.out _ _ (trivial) (fun hHeld => ?_)
            clear hK K
            try simp only [Act.put, List.setIfInBounds_toArray, List.set_cons_zero, List.set_cons_succ]
            refine wpAnyH_take (i := 9) (v := ?_) rfl (by kernel_rfl) (by kernel_rfl) (by kernel_rfl) (fun _ _ _ h => h) (Or.inl ⟨by rfl, ?_⟩) (by assumption) ?_
            rotate_left
            · intro w hSw
              try dsimp only at hSw
              go_simp
              try with_reducible rfl
            try simp only [Act.put, List.setIfInBounds_toArray, List.set_cons_zero, List.set_cons_succ]
            refine wpAnyH_ready (rs := [10]) (by kernel_rfl) (by simp) ?_
            refine AllReadyH.cons rfl (fun K hK => ?_) AllReadyH.nil
            go_simp
            refine hK.out _ _ (trivial) (fun hHeld => ?_)
            clear hK K
            try simp only [Act.put, List.setIfInBounds_toArray, List.set_cons_zero, List.set_cons_succ]
            refine wpAnyH_done (by kernel_rfl) ?_ _
            refine NoPanic.normal ?_
            go_upto_region 10 with fail
            obtain ⟨W2, hW2⟩ : ∃ W2, W2 = w9.setCell ⟨wc.heap.size, 1, none⟩ (.slice A9 k c9) := ⟨_, rfl⟩
            have hb19 : Below wc.heap.size wc w9 := (by rw [HTB.out]; exact HB1.out.trans (HB9.out.mono HB1.out.size))
            have hb2 : Below wc.heap.size wc W2 := by rw [hW2]; exact hb19.setCell (Nat.le_refl _) _
            have ht2 : W2.heap[wc.heap.size]? = some (.cells #[.int .i64 x1, .slice A9 k c9] 39 (0, 0)) := by
              rw [hW2]
              exact Gn.heap_set ((HB9.out.block _ (Gn.heap_lt HT1.out)).trans HT1.out) 1 _
            have hz2 : V1.heap.size ≤ W2.heap.size := by rw [hW2]; simpa [World.setCell] using HB9.out.size
            have ho2 : W2.ownsRow V1.heap.size 39 2 (.slice A9 k c9) k (cells2 (vs.drop o)) := by
              rw [hW2]
              exact ownsRow_setCell_below HO9.out (by show wc.heap.size < _; have := HZ1.out; omega) _
            have htz := HTB.out
            have hz1 := HZ1.out
            have hpd2 : PairsAt lo W2.heap.size W2 (st.drop o) (vs.drop o) := ⟨(HPR.out.drop o).1, fun i h1 h2 => ((HPR.out.drop o).2 i h1 h2).keep (by omega) fun r hr hz => ⟨⟨hr.1, by omega⟩, fun x => Gn.cell_same (hb2.block r (by omega)) x⟩⟩
            have hpf : PairsAt lo W2.heap.size W2 (st.take o) (vs.take o) := ⟨(HPR.out.take o).1, fun i h1 h2 => ((HPR.out.take o).2 i h1 h2).keep (by omega) fun r hr hz => ⟨⟨hr.1, by omega⟩, fun x => Gn.cell_same (hb2.block r (by omega)) x⟩⟩
            have hkids : TrsAt (fun r => lo ≤ r) W2 (st.drop o) (.slice A9 k c9) := PairsAt.trs hpd2 (by rw [HDL.out]; exact ho2) (by omega)
            have htree := tr_low (hkids.tree x1)
            have HTR := Lib.hid (fun (w : World) (bw : Below W2.heap.size W2 w) => (htree.under bw))
            have HPF := Lib.hid (fun (w : World) (bw : Below W2.heap.size W2 w) => hpf.keep bw.size fun r _ h9 _ => bw.block r h9)
            have HMK2 := Lib.hid (fun (w' : World) (bw : Below W2.heap.size W2 w') => show (fun w' : World => w'.cell? ⟨wc.heap.size, 0, none⟩ = some (.int .i64 x1) ∧ w'.cell? ⟨wc.heap.size, 1, none⟩ = some (.slice A9 k c9)) w' from ⟨cell_of_row _ _ 0 _ _ (0, 0) ((bw.block _ (Gn.heap_lt ht2)).trans ht2), cell_of_row _ _ 1 _ _ (0, 0) ((bw.block _ (Gn.heap_lt ht2)).trans ht2)⟩)
            have HL6 := Lib.hid (fun (w : World) (bw : Below W2.heap.size W2 w) => HLX.out w (((by rw [← HTB.out]; exact hb2 : Below wc.heap.size wc W2)).trans (bw.mono (by omega))))
            have HB2 := Lib.hid hb2
            have HW2 := Lib.hid hW2
            have HZ2 := Lib.hid (show lo ≤ W2.heap.size by omega)
            have HBX2 := Lib.hid ((hb2.block _ (by rw [HTB.out]; exact Gn.heap_lt HBX.out)).trans HBX.out)
            clear hW2 hb19 hb2 ht2 hz2 ho2 hpd2 hkids htree hpf d9 df9 htz hz1
            rw [← HW2.out]
            refine wp_region_noPanic ?_
            refine wp_region_held_drew (S := (fun w' : World => w'.cell? ⟨wc.heap.size, 0, none⟩ = some (.int .i64 x1) ∧ w'.cell? ⟨wc.heap.size, 1, none⟩ = some (.slice A9 k c9))) (by kernel_rfl) ?_ (fun hHeld => ?_)
            · exact HMK2.out _ (Gn.below_drew (Below.refl W2.heap.size W2))
            refine wpAnyH_take (i := 1) (v := ?_) rfl (by kernel_rfl) (by kernel_rfl) (by kernel_rfl) (fun _ _ _ h => h) (Or.inl ⟨by rfl, ?_⟩) (by assumption) ?_
            rotate_left
            · intro w hSw
              try dsimp only at hSw
              go_simp
              try with_reducible rfl
            try simp only [Act.put, List.setIfInBounds_toArray, List.set_cons_zero, List.set_cons_succ]
            refine wpAnyH_take (i := 2) (v := ?_) rfl (by kernel_rfl) (by kernel_rfl) (by kernel_rfl) (fun _ _ _ h => h) (Or.inl ⟨by rfl, ?_⟩) (by assumption) ?_
            rotate_left
            · intro w hSw
              try dsimp only at hSw
              go_simp
              try with_reducible rfl
            try simp only [Act.put, List.setIfInBounds_toArray, List.set_cons_zero, List.set_cons_succ]
            refine wpAnyH_take (i := 3) (v := ?_) rfl (by kernel_rfl) (by kernel_rfl) (by kernel_rfl) (fun _ _ _ h => h) (Or.inl ⟨by rfl, ?_⟩) (by assumption) ?_
            rotate_left
            · intro w hSw
              try dsimp only at hSw
              go_simp
              try with_reducible rfl
            try simp only [Act.put, List.setIfInBounds_toArray, List.set_cons_zero, List.set_cons_succ]
            refine wpAnyH_take (i := 4) (v := ?_) rfl (by kernel_rfl) (by kernel_rfl) (by kernel_rfl) (fun _ _ _ h => h) (Or.inl ⟨by rfl, ?_⟩) (by assumption) ?_
            rotate_left
            · intro w hSw
              try dsimp only at hSw
              go_simp
              try with_reducible rfl
            try simp only [Act.put, List.setIfInBounds_toArray, List.set_cons_zero, List.set_cons_succ]
            refine wpAnyH_take (i := 5) (v := ?_) rfl (by kernel_rfl) (by kernel_rfl) (by kernel_rfl) (fun _ _ _ h => h) (Or.inl ⟨by rfl, ?_⟩) (by assumption) ?_
            rotate_left
            · intro w hSw
              try dsimp only at hSw
              go_simp
              try with_reducible rfl
            try simp only [Act.put, List.setIfInBounds_toArray, List.set_cons_zero, List.set_cons_succ]
            refine wpAnyH_take (i := 6) (v := ?_) rfl (by kernel_rfl) (by kernel_rfl) (by kernel_rfl) (fun _ _ _ h => h) (Or.inl ⟨by rfl, ?_⟩) (by assumption) ?_
            rotate_left
            · intro w hSw
              try dsimp only at hSw
              go_simp
              try with_reducible rfl
            try simp only [Act.put, List.setIfInBounds_toArray, List.set_cons_zero, List.set_cons_succ]
            refine wpAnyH_take (i := 8) (v := ?_) rfl (by kernel_rfl) (by kernel_rfl) (by kernel_rfl) (fun _ _ _ h => h) (Or.inl ⟨by rfl, ?_⟩) (by assumption) ?_
            rotate_left
            · intro w hSw
              try dsimp only at hSw
              go_simp
              try with_reducible rfl
            try simp only [Act.put, List.setIfInBounds_toArray, List.set_cons_zero, List.set_cons_succ]
            refine wpAnyH_ready (rs := [0, 9]) (by kernel_rfl) (by simp) ?_
            refine AllReadyH.cons rfl (fun K hK => ?_) ?_
            · go_simp
              refine hK.out _ _ (HMK2.out _ (Below.alloc (Gn.below_drew (Below.refl W2.heap.size W2)) (Below.size (Gn.below_drew (Below.refl W2.heap.size W2))) (.cells #[] 39))) (fun hHeld => ?_)
              clear hK K
              try simp only [Act.put, List.setIfInBounds_toArray, List.set_cons_zero, List.set_cons_succ]
              refine wpAnyH_ready (rs := [7, 9]) (by kernel_rfl) (by simp) ?_
              refine AllReadyH.cons rfl (fun K hK => ?_) ?_
              · refine step_append_pairs _ (by rfl) (.tmp 45) (.tmp 51) (by rfl) W2.heap.size (.slice (some ⟨W2.heap.size, 0, none⟩) 0 0) 0 [] rfl (World.ownsRow_made (base := W2.heap.size) W2.drew #[] 0 (Nat.le_refl _) (by decide) (by simp)) (HPF.out _ (Below.alloc (Gn.below_drew (Below.refl W2.heap.size W2)) (Below.size (Gn.below_drew (Below.refl W2.heap.size W2))) (.cells #[] 39))) _ rfl o HFL.out (HL6.out _ (Below.alloc (Gn.below_drew (Below.refl W2.heap.size W2)) (Below.size (Gn.below_drew (Below.refl W2.heap.size W2))) (.cells #[] 39))) (by omega) (Below.size (Below.alloc (Gn.below_drew (Below.refl W2.heap.size W2)) (Below.size (Gn.below_drew (Below.refl W2.heap.size W2))) (.cells #[] 39))) ?_
                intro v7 w7 ho7 hg7 hat7
                have hb7 : Below W2.heap.size W2 w7 := Below.grown (Below.alloc (Gn.below_drew (Below.refl W2.heap.size W2)) (Below.size (Gn.below_drew (Below.refl W2.heap.size W2))) (.cells #[] 39)) hg7 (Below.size (Below.alloc (Gn.below_drew (Below.refl W2.heap.size W2)) (Below.size (Gn.below_drew (Below.refl W2.heap.size W2))) (.cells #[] 39))) (fun kk hk => by injection hk with hk; simp at hk; omega)
                have HO7 := Lib.hid ho7
                have HB7 := Lib.hid hb7
                clear ho7 hg7 hat7 hb7
                refine hK.out _ _ (HMK2.out _ HB7.out) (fun hHeld => ?_)
                clear hK K
                try simp only [Act.put, List.setIfInBounds_toArray, List.set_cons_zero, List.set_cons_succ]
                refine wpAnyH_ready (rs := [9]) (by kernel_rfl) (by simp) ?_
                refine AllReadyH.cons rfl (fun K hK => ?_) AllReadyH.nil
                go_simp
                refine hK.out _ _ (HMK2.out _ (Below.alloc HB7.out (Below.size HB7.out) (.cells #[.int .i64 x1, .slice A9 k c9] 39))) (fun hHeld => ?_)
                clear hK K
                try simp only [Act.put, List.setIfInBounds_toArray, List.set_cons_zero, List.set_cons_succ]
                refine wpAnyH_ready (rs := [10]) (by kernel_rfl) (by simp) ?_
                refine AllReadyH.cons rfl (fun K hK => ?_) AllReadyH.nil
                refine step_append_pairs _ (by rfl) (.tmp 52) (.tmp 54) (by rfl) W2.heap.size v7 (0 + o) ([] ++ cells2 (vs.take o)) rfl (World.ownsRow.alloc HO7.out _) (PairsAt.one (HTR.out _ (Below.alloc HB7.out (Below.size HB7.out) (.cells #[.int .i64 x1, .slice A9 k c9] 39)))) _ rfl 1 rfl (.inr ⟨⟨w7.heap.size, 0, none⟩, 1, rfl, lies_block (heap_alloc_new w7 _)⟩) (by omega) (Below.size (Below.alloc HB7.out (Below.size HB7.out) (.cells #[.int .i64 x1, .slice A9 k c9] 39))) ?_
                intro v8 w8 ho8 hg8 hat8
                have hb8 : Below W2.heap.size W2 w8 := Below.grown (Below.alloc HB7.out (Below.size HB7.out) (.cells #[.int .i64 x1, .slice A9 k c9] 39)) hg8 (Below.size (Below.alloc HB7.out (Below.size HB7.out) (.cells #[.int .i64 x1, .slice A9 k c9] 39))) (fun kk hk => Gn.own_block HO7.out kk hk)
                obtain ⟨A8, c8, hv8, hts8⟩ := row_done HFL.out (HPF.out w8 hb8) (HTR.out w8 hb8) ho8 HZ2.out
                rw [← HST2.out] at hv8 hts8
                subst hv8
                have HTS8 := Lib.hid hts8
                have HB8 := Lib.hid hb8
                clear ho8 hg8 hat8 hb8 hts8
                refine hK.out _ _ (HMK2.out _ HB8.out) (fun hHeld => ?_)
                clear hK K
                try simp only [Act.put, List.setIfInBounds_toArray, List.set_cons_zero, List.set_cons_succ]
                refine wpAnyH_ready (rs := [11]) (by kernel_rfl) (by simp) ?_
                refine AllReadyH.cons rfl (fun K hK => ?_) AllReadyH.nil
                go_simp
                refine hK.out _ _ (hHeld) (fun hHeld => ?_)
                clear hK K
                try simp only [Act.put, List.setIfInBounds_toArray, List.set_cons_zero, List.set_cons_succ]
                refine wpAnyH_done (by kernel_rfl) ?_ _
                refine NoPanic.normal ?_
                go_wp2_with fail
                go_roundw
                case rel => exact ⟨j + 1, A8, c8, st2, by omega, by go_num, rfl, fun h9 => absurd h9 (by have := HL2.out; omega), HTS8.out, HN2.out, by have := HL2.out; omega, HF2.out, HBW.out.trans ((HB2.out.mono (by have := HTB.out; have := HBW.out.size; omega)).trans (HB8.out.mono (by have := HBW.out.size; have := HB2.out.size; omega))), (HB8.out.block _ (Gn.heap_lt HBX2.out)).trans HBX2.out⟩
                case measure => simp [intOf]; omega
              refine AllReadyH.cons rfl (fun K hK => ?_) AllReadyH.nil
              · go_simp
                refine hK.out _ _ (HMK2.out _ (Below.alloc (Below.alloc (Gn.below_drew (Below.refl W2.heap.size W2)) (Below.size (Gn.below_drew (Below.refl W2.heap.size W2))) (.cells #[] 39)) (Below.size (Below.alloc (Gn.below_drew (Below.refl W2.heap.size W2)) (Below.size (Gn.below_drew (Below.refl W2.heap.size W2))) (.cells #[] 39))) (.cells #[.int .i64 x1, .slice A9 k c9] 39))) (fun hHeld => ?_)
                clear hK K
                try simp only [Act.put, List.setIfInBounds_toArray, List.set_cons_zero, List.set_cons_succ]
                refine wpAnyH_ready (rs := [7]) (by kernel_rfl) (by simp) ?_
                refine AllReadyH.cons rfl (fun K hK => ?_) AllReadyH.nil
                refine step_append_pairs _ (by rfl) (.tmp 45) (.tmp 51) (by rfl) W2.heap.size (.slice (some ⟨W2.heap.size, 0, none⟩) 0 0) 0 [] rfl (World.ownsRow.alloc (World.ownsRow_made (base := W2.heap.size) W2.drew #[] 0 (Nat.le_refl _) (by decide) (by simp)) _) (HPF.out _ (Below.alloc (Below.alloc (Gn.below_drew (Below.refl W2.heap.size W2)) (Below.size (Gn.below_drew (Below.refl W2.heap.size W2))) (.cells #[] 39)) (Below.size (Below.alloc (Gn.below_drew (Below.refl W2.heap.size W2)) (Below.size (Gn.below_drew (Below.refl W2.heap.size W2))) (.cells #[] 39))) (.cells #[.int .i64 x1, .slice A9 k c9] 39))) _ rfl o HFL.out (HL6.out _ (Below.alloc (Below.alloc (Gn.below_drew (Below.refl W2.heap.size W2)) (Below.size (Gn.below_drew (Below.refl W2.heap.size W2))) (.cells #[] 39)) (Below.size (Below.alloc (Gn.below_drew (Below.refl W2.heap.size W2)) (Below.size (Gn.below_drew (Below.refl W2.heap.size W2))) (.cells #[] 39))) (.cells #[.int .i64 x1, .slice A9 k c9] 39))) (by omega) (Below.size (Below.alloc (Below.alloc (Gn.below_drew (Below.refl W2.heap.size W2)) (Below.size (Gn.below_drew (Below.refl W2.heap.size W2))) (.cells #[] 39)) (Below.size (Below.alloc (Gn.below_drew (Below.refl W2.heap.size W2)) (Below.size (Gn.below_drew (Below.refl W2.heap.size W2))) (.cells #[] 39))) (.cells #[.int .i64 x1, .slice A9 k c9] 39))) ?_
                intro v7 w7 ho7 hg7 hat7
                have hb7 : Below W2.heap.size W2 w7 := Below.grown (Below.alloc (Below.alloc (Gn.below_drew (Below.refl W2.heap.size W2)) (Below.size (Gn.below_drew (Below.refl W2.heap.size W2))) (.cells #[] 39)) (Below.size (Below.alloc (Gn.below_drew (Below.refl W2.heap.size W2)) (Below.size (Gn.below_drew (Below.refl W2.heap.size W2))) (.cells #[] 39))) (.cells #[.int .i64 x1, .slice A9 k c9] 39)) hg7 (Below.size (Below.alloc (Below.alloc (Gn.below_drew (Below.refl W2.heap.size W2)) (Below.size (Gn.below_drew (Below.refl W2.heap.size W2))) (.cells #[] 39)) (Below.size (Below.alloc (Gn.below_drew (Below.refl W2.heap.size W2)) (Below.size (Gn.below_drew (Below.refl W2.heap.size W2))) (.cells #[] 39))) (.cells #[.int .i64 x1, .slice A9 k c9] 39))) (fun kk hk => by injection hk with hk; simp at hk; omega)
                have HO7 := Lib.hid ho7
                have HB7 := Lib.hid hb7
                have h9r : w7.heap[W2.heap.size + 1]? = some (.cells #[.int .i64 x1, .slice A9 k c9] 39 (0, 0)) := (hg7.block (W2.heap.size + 1) (by simp <;> omega) (fun e => by injection e with e; simp at e)).trans (Fx.heap_new _ _ _ (by simp))
                have H9R := Lib.hid h9r
                clear h9r
                clear ho7 hg7 hat7 hb7
                refine hK.out _ _ (HMK2.out _ HB7.out) (fun hHeld => ?_)
                clear hK K
                try simp only [Act.put, List.setIfInBounds_toArray, List.set_cons_zero, List.set_cons_succ]
                refine wpAnyH_ready (rs := [10]) (by kernel_rfl) (by simp) ?_
                refine AllReadyH.cons rfl (fun K hK => ?_) AllReadyH.nil
                refine step_append_pairs _ (by rfl) (.tmp 52) (.tmp 54) (by rfl) W2.heap.size v7 (0 + o) ([] ++ cells2 (vs.take o)) rfl HO7.out (PairsAt.one (HTR.out _ HB7.out)) _ rfl 1 rfl (.inr ⟨⟨W2.heap.size + 1, 0, none⟩, 1, rfl, lies_block H9R.out⟩) (by omega) (Below.size HB7.out) ?_
                intro v8 w8 ho8 hg8 hat8
                have hb8 : Below W2.heap.size W2 w8 := Below.grown HB7.out hg8 (Below.size HB7.out) (fun kk hk => Gn.own_block HO7.out kk hk)
                obtain ⟨A8, c8, hv8, hts8⟩ := row_done HFL.out (HPF.out w8 hb8) (HTR.out w8 hb8) ho8 HZ2.out
                rw [← HST2.out] at hv8 hts8
                subst hv8
                have HTS8 := Lib.hid hts8
                have HB8 := Lib.hid hb8
                clear ho8 hg8 hat8 hb8 hts8
                refine hK.out _ _ (HMK2.out _ HB8.out) (fun hHeld => ?_)
                clear hK K
                try simp only [Act.put, List.setIfInBounds_toArray, List.set_cons_zero, List.set_cons_succ]
                refine wpAnyH_ready (rs := [11]) (by kernel_rfl) (by simp) ?_
                refine AllReadyH.cons rfl (fun K hK => ?_) AllReadyH.nil
                go_simp
                refine hK.out _ _ (hHeld) (fun hHeld => ?_)
                clear hK K
                try simp only [Act.put, List.setIfInBounds_toArray, List.set_cons_zero, List.set_cons_succ]
                refine wpAnyH_done (by kernel_rfl) ?_ _
                refine NoPanic.normal ?_
                go_wp2_with fail
                go_roundw
                case rel => exact ⟨j + 1, A8, c8, st2, by omega, by go_num, rfl, fun h9 => absurd h9 (by have := HL2.out; omega), HTS8.out, HN2.out, by have := HL2.out; omega, HF2.out, HBW.out.trans ((HB2.out.mono (by have := HTB.out; have := HBW.out.size; omega)).trans (HB8.out.mono (by have := HBW.out.size; have := HB2.out.size; omega))), (HB8.out.block _ (Gn.heap_lt HBX2.out)).trans HBX2.out⟩
                case measure => simp [intOf]; omega
            refine AllReadyH.cons rfl (fun K hK => ?_) AllReadyH.nil
            · go_simp
              refine hK.out _ _ (HMK2.out _ (Below.alloc (Gn.below_drew (Below.refl W2.heap.size W2)) (Below.size (Gn.below_drew (Below.refl W2.heap.size W2))) (.cells #[.int .i64 x1, .slice A9 k c9] 39))) (fun hHeld => ?_)
              clear hK K
              try simp only [Act.put, List.setIfInBounds_toArray, List.set_cons_zero, List.set_cons_succ]
              refine wpAnyH_ready (rs := [0]) (by kernel_rfl) (by simp) ?_
              refine AllReadyH.cons rfl (fun K hK => ?_) AllReadyH.nil
              go_simp
              refine hK.out _ _ (HMK2.out _ (Below.alloc (Below.alloc (Gn.below_drew (Below.refl W2.heap.size W2)) (Below.size (Gn.below_drew (Below.refl W2.heap.size W2))) (.cells #[.int .i64 x1, .slice A9 k c9] 39)) (Below.size (Below.alloc (Gn.below_drew (Below.refl W2.heap.size W2)) (Below.size (Gn.below_drew (Below.refl W2.heap.size W2))) (.cells #[.int .i64 x1, .slice A9 k c9] 39))) (.cells #[] 39))) (fun hHeld => ?_)
              clear hK K
              try simp only [Act.put, List.setIfInBounds_toArray, List.set_cons_zero, List.set_cons_succ]
              refine wpAnyH_ready (rs := [7]) (by kernel_rfl) (by simp) ?_
              refine AllReadyH.cons rfl (fun K hK => ?_) AllReadyH.nil
              have hOB : ((W2.alloc (.cells #[.int .i64 x1, .slice A9 k c9] 39)).alloc (.cells #[] 39)).drew.ownsRow W2.heap.size 39 2 (.slice (some ⟨W2.heap.size + 1, 0, none⟩) 0 0) 0 [] := by have h9 := World.ownsRow_made (base := W2.heap.size) (e := 39) (size := 2) (W2.alloc (.cells #[.int .i64 x1, .slice A9 k c9] 39)) #[] 0 (by simp) (by decide) (by simp); rw [Gn.size_alloc'] at h9; exact h9
              refine step_append_pairs _ (by rfl) (.tmp 45) (.tmp 51) (by rfl) W2.heap.size (.slice (some ⟨W2.heap.size + 1, 0, none⟩) 0 0) 0 [] rfl hOB (HPF.out _ (Below.alloc (Below.alloc (Gn.below_drew (Below.refl W2.heap.size W2)) (Below.size (Gn.below_drew (Below.refl W2.heap.size W2))) (.cells #[.int .i64 x1, .slice A9 k c9] 39)) (Below.size (Below.alloc (Gn.below_drew (Below.refl W2.heap.size W2)) (Below.size (Gn.below_drew (Below.refl W2.heap.size W2))) (.cells #[.int .i64 x1, .slice A9 k c9] 39))) (.cells #[] 39))) _ rfl o HFL.out (HL6.out _ (Below.alloc (Below.alloc (Gn.below_drew (Below.refl W2.heap.size W2)) (Below.size (Gn.below_drew (Below.refl W2.heap.size W2))) (.cells #[.int .i64 x1, .slice A9 k c9] 39)) (Below.size (Below.alloc (Gn.below_drew (Below.refl W2.heap.size W2)) (Below.size (Gn.below_drew (Below.refl W2.heap.size W2))) (.cells #[.int .i64 x1, .slice A9 k c9] 39))) (.cells #[] 39))) (by omega) (Below.size (Below.alloc (Below.alloc (Gn.below_drew (Below.refl W2.heap.size W2)) (Below.size (Gn.below_drew (Below.refl W2.heap.size W2))) (.cells #[.int .i64 x1, .slice A9 k c9] 39)) (Below.size (Below.alloc (Gn.below_drew (Below.refl W2.heap.size W2)) (Below.size (Gn.below_drew (Below.refl W2.heap.size W2))) (.cells #[.int .i64 x1, .slice A9 k c9] 39))) (.cells #[] 39))) ?_
              intro v7 w7 ho7 hg7 hat7
              have hb7 : Below W2.heap.size W2 w7 := Below.grown (Below.alloc (Below.alloc (Gn.below_drew (Below.refl W2.heap.size W2)) (Below.size (Gn.below_drew (Below.refl W2.heap.size W2))) (.cells #[.int .i64 x1, .slice A9 k c9] 39)) (Below.size (Below.alloc (Gn.below_drew (Below.refl W2.heap.size W2)) (Below.size (Gn.below_drew (Below.refl W2.heap.size W2))) (.cells #[.int .i64 x1, .slice A9 k c9] 39))) (.cells #[] 39)) hg7 (Below.size (Below.alloc (Below.alloc (Gn.below_drew (Below.refl W2.heap.size W2)) (Below.size (Gn.below_drew (Below.refl W2.heap.size W2))) (.cells #[.int .i64 x1, .slice A9 k c9] 39)) (Below.size (Below.alloc (Gn.below_drew (Below.refl W2.heap.size W2)) (Below.size (Gn.below_drew (Below.refl W2.heap.size W2))) (.cells #[.int .i64 x1, .slice A9 k c9] 39))) (.cells #[] 39))) (fun kk hk => by injection hk with hk; simp at hk; omega)
              have HO7 := Lib.hid ho7
              have HB7 := Lib.hid hb7
              have h9r : w7.heap[W2.heap.size]? = some (.cells #[.int .i64 x1, .slice A9 k c9] 39 (0, 0)) := (hg7.block (W2.heap.size) (by simp <;> omega) (fun e => by injection e with e; simp at e)).trans ((heap_alloc_old _ _ (by simp)).trans (heap_alloc_new _ _))
              have H9R := Lib.hid h9r
              clear h9r
              clear ho7 hg7 hat7 hb7
              refine hK.out _ _ (HMK2.out _ HB7.out) (fun hHeld => ?_)
              clear hK K
              try simp only [Act.put, List.setIfInBounds_toArray, List.set_cons_zero, List.set_cons_succ]
              refine wpAnyH_ready (rs := [10]) (by kernel_rfl) (by simp) ?_
              refine AllReadyH.cons rfl (fun K hK => ?_) AllReadyH.nil
              refine step_append_pairs _ (by rfl) (.tmp 52) (.tmp 54) (by rfl) W2.heap.size v7 (0 + o) ([] ++ cells2 (vs.take o)) rfl HO7.out (PairsAt.one (HTR.out _ HB7.out)) _ rfl 1 rfl (.inr ⟨⟨W2.heap.size, 0, none⟩, 1, rfl, lies_block H9R.out⟩) (by omega) (Below.size HB7.out) ?_
              intro v8 w8 ho8 hg8 hat8
              have hb8 : Below W2.heap.size W2 w8 := Below.grown HB7.out hg8 (Below.size HB7.out) (fun kk hk => Gn.own_block HO7.out kk hk)
              obtain ⟨A8, c8, hv8, hts8⟩ := row_done HFL.out (HPF.out w8 hb8) (HTR.out w8 hb8) ho8 HZ2.out
              rw [← HST2.out] at hv8 hts8
              subst hv8
              have HTS8 := Lib.hid hts8
              have HB8 := Lib.hid hb8
              clear ho8 hg8 hat8 hb8 hts8
              refine hK.out _ _ (HMK2.out _ HB8.out) (fun hHeld => ?_)
              clear hK K
              try simp only [Act.put, List.setIfInBounds_toArray, List.set_cons_zero, List.set_cons_succ]
              refine wpAnyH_ready (rs := [11]) (by kernel_rfl) (by simp) ?_
              refine AllReadyH.cons rfl (fun K hK => ?_) AllReadyH.nil
              go_simp
              refine hK.out _ _ (hHeld) (fun hHeld => ?_)
              clear hK K
              try simp only [Act.put, List.setIfInBounds_toArray, List.set_cons_zero, List.set_cons_succ]
              refine wpAnyH_done (by kernel_rfl) ?_ _
              refine NoPanic.normal ?_
              go_wp2_with fail
              go_roundw
              case rel => exact ⟨j + 1, A8, c8, st2, by omega, by go_num, rfl, fun h9 => absurd h9 (by have := HL2.out; omega), HTS8.out, HN2.out, by have := HL2.out; omega, HF2.out, HBW.out.trans ((HB2.out.mono (by have := HTB.out; have := HBW.out.size; omega)).trans (HB8.out.mono (by have := HBW.out.size; have := HB2.out.size; omega))), (HB8.out.block _ (Gn.heap_lt HBX2.out)).trans HBX2.out⟩
              case measure => simp [intOf]; omega
    · by_cases hjl : j < ln
      · have hjl2 : (j : Int) < (ln : Int) := by omega
        have hj302 : ¬ (j : Int) < 30 := by omega
        clear hgo
        by_cases hm0 : m = 0
        · obtain ⟨rfl, rfl⟩ := hnil hm0
          subst hm0
          have HRS := Lib.hid (res_set HBX.out (.int .i64 0) (.slice none 0 0))
          have HF9 := Lib.hid (show BtOut W (.returned (.agg #[.int .i64 0, .slice none 0 0])) ((wr.setCell ⟨W.heap.size, 0, none⟩ (.int .i64 0)).setCell ⟨W.heap.size, 1, none⟩ (.slice none 0 0)) from ⟨.mk 0 [], 0, none, 0, 0, rfl, tr_zero9 _ _, by rw [nodesT, nodesL]; omega, Fine.mk ⟨by decide, by decide⟩ (fun n hn => by rw [preL] at hn; cases hn), (HBL.out.setCell (Nat.le_refl _) _).setCell (Nat.le_refl _) _⟩)
          have b0 := cell_of_row _ _ 0 _ _ (0, 0) HBX.out
          have b1 := cell_of_row _ _ 1 _ _ (0, 0) HBX.out
          have f0 := Gn.frozen_row HBX.out 0
          have f1 := Gn.frozen_row HBX.out 1
          go_wp2_with fail
          exact bodyPost_ret (results_cell_row rfl _ _ W.heap.size 39 _ (0, 0) _ rfl HRS.out Try.underlying39 rfl rfl) rfl HF9.out
        · obtain ⟨rfl, hq1, _⟩ := hq0 (by omega)
          obtain ⟨o, ho⟩ : ∃ o, o = m - 1 := ⟨_, rfl⟩
          have hom : o < m := by omega
          have hoi : (o : Int) < (m : Int) := by omega
          have hmz : ¬ (m : Int) = 0 := by omega
          have hsub : (m : Int) - 1 = (o : Int) := by omega
          have hwr : IntKind.i64.wrap ((m : Int) - 1) = (o : Int) := by rw [hsub]; exact IntWalk.i64_in _ (by omega)
          clear hsub
          have hos : o < st.length := by rw [← HM.out]; exact hom
          have hov : o < vs.length := by rw [HPR.out.1]; exact hos
          have hcc := HVC.out o hov
          have htt := HPR.out.2 o hos hov
          obtain ⟨xn, xA, xm, xc, e1, e2⟩ := htt.form
          rw [e1, e2] at htt hcc
          obtain ⟨k0, k1⟩ := hcc
          have hone := one_in st o hos
          have HRS := Lib.hid (res_set HBX.out (.int .i64 xn) (.slice xA xm xc))
          have hk9 : ∀ b, W.heap.size ≠ b → ((wr.setCell ⟨W.heap.size, 0, none⟩ (.int .i64 xn)).setCell ⟨W.heap.size, 1, none⟩ (.slice xA xm xc)).heap[b]? = wr.heap[b]? := fun b hb => (Gn.set_keep _ 1 _ hb).trans (Gn.set_keep _ 0 _ hb)
          have hsz9 : ((wr.setCell ⟨W.heap.size, 0, none⟩ (.int .i64 xn)).setCell ⟨W.heap.size, 1, none⟩ (.slice xA xm xc)).heap.size = wr.heap.size := by simp [World.setCell]
          have HF9 := Lib.hid (show BtOut W (.returned (.agg #[.int .i64 xn, .slice xA xm xc])) ((wr.setCell ⟨W.heap.size, 0, none⟩ (.int .i64 xn)).setCell ⟨W.heap.size, 1, none⟩ (.slice xA xm xc)) from ⟨st[o], xn, xA, xm, xc, rfl, htt.keep (by rw [hsz9]; exact Nat.le_refl _) (fun r hr hz => ⟨by have := hr.1; have := HLO.out; omega, fun j => Gn.cell_same (hk9 r (by have := hr.1; have := HLO.out; omega)) j⟩), by have := hone.1; have := HND.out; omega, hone.2 HFN.out, (HBL.out.setCell (Nat.le_refl _) _).setCell (Nat.le_refl _) _⟩)
          clear hk9 hsz9 htt e1 e2 hone hos hov ho
          have b0 := cell_of_row _ _ 0 _ _ (0, 0) HBX.out
          have b1 := cell_of_row _ _ 1 _ _ (0, 0) HBX.out
          have f0 := Gn.frozen_row HBX.out 0
          have f1 := Gn.frozen_row HBX.out 1
          go_wp2_with fail
          exact bodyPost_ret (results_cell_row rfl _ _ W.heap.size 39 _ (0, 0) _ rfl HRS.out Try.underlying39 rfl rfl) rfl HF9.out
      · have hjl2 : ¬ (j : Int) < (ln : Int) := by omega
        clear hgo
        by_cases hm0 : m = 0
        · obtain ⟨rfl, rfl⟩ := hnil hm0
          subst hm0
          have HRS := Lib.hid (res_set HBX.out (.int .i64 0) (.slice none 0 0))
          have HF9 := Lib.hid (show BtOut W (.returned (.agg #[.int .i64 0, .slice none 0 0])) ((wr.setCell ⟨W.heap.size, 0, none⟩ (.int .i64 0)).setCell ⟨W.heap.size, 1, none⟩ (.slice none 0 0)) from ⟨.mk 0 [], 0, none, 0, 0, rfl, tr_zero9 _ _, by rw [nodesT, nodesL]; omega, Fine.mk ⟨by decide, by decide⟩ (fun n hn => by rw [preL] at hn; cases hn), (HBL.out.setCell (Nat.le_refl _) _).setCell (Nat.le_refl _) _⟩)
          have b0 := cell_of_row _ _ 0 _ _ (0, 0) HBX.out
          have b1 := cell_of_row _ _ 1 _ _ (0, 0) HBX.out
          have f0 := Gn.frozen_row HBX.out 0
          have f1 := Gn.frozen_row HBX.out 1
          go_wp2_with fail
          exact bodyPost_ret (results_cell_row rfl _ _ W.heap.size 39 _ (0, 0) _ rfl HRS.out Try.underlying39 rfl rfl) rfl HF9.out
        · obtain ⟨rfl, hq1, _⟩ := hq0 (by omega)
          obtain ⟨o, ho⟩ : ∃ o, o = m - 1 := ⟨_, rfl⟩
          have hom : o < m := by omega
          have hoi : (o : Int) < (m : Int) := by omega
          have hmz : ¬ (m : Int) = 0 := by omega
          have hsub : (m : Int) - 1 = (o : Int) := by omega
          have hwr : IntKind.i64.wrap ((m : Int) - 1) = (o : Int) := by rw [hsub]; exact IntWalk.i64_in _ (by omega)
          clear hsub
          have hos : o < st.length := by rw [← HM.out]; exact hom
          have hov : o < vs.length := by rw [HPR.out.1]; exact hos
          have hcc := HVC.out o hov
          have htt := HPR.out.2 o hos hov
          obtain ⟨xn, xA, xm, xc, e1, e2⟩ := htt.form
          rw [e1, e2] at htt hcc
          obtain ⟨k0, k1⟩ := hcc
          have hone := one_in st o hos
          have HRS := Lib.hid (res_set HBX.out (.int .i64 xn) (.slice xA xm xc))
          have hk9 : ∀ b, W.heap.size ≠ b → ((wr.setCell ⟨W.heap.size, 0, none⟩ (.int .i64 xn)).setCell ⟨W.heap.size, 1, none⟩ (.slice xA xm xc)).heap[b]? = wr.heap[b]? := fun b hb => (Gn.set_keep _ 1 _ hb).trans (Gn.set_keep _ 0 _ hb)
          have hsz9 : ((wr.setCell ⟨W.heap.size, 0, none⟩ (.int .i64 xn)).setCell ⟨W.heap.size, 1, none⟩ (.slice xA xm xc)).heap.size = wr.heap.size := by simp [World.setCell]
          have HF9 := Lib.hid (show BtOut W (.returned (.agg #[.int .i64 xn, .slice xA xm xc])) ((wr.setCell ⟨W.heap.size, 0, none⟩ (.int .i64 xn)).setCell ⟨W.heap.size, 1, none⟩ (.slice xA xm xc)) from ⟨st[o], xn, xA, xm, xc, rfl, htt.keep (by rw [hsz9]; exact Nat.le_refl _) (fun r hr hz => ⟨by have := hr.1; have := HLO.out; omega, fun j => Gn.cell_same (hk9 r (by have := hr.1; have := HLO.out; omega)) j⟩), by have := hone.1; have := HND.out; omega, hone.2 HFN.out, (HBL.out.setCell (Nat.le_refl _) _).setCell (Nat.le_refl _) _⟩)
          clear hk9 hsz9 htt e1 e2 hone hos hov ho
          have b0 := cell_of_row _ _ 0 _ _ (0, 0) HBX.out
          have b1 := cell_of_row _ _ 1 _ _ (0, 0) HBX.out
          have f0 := Gn.frozen_row HBX.out 0
          have f1 := Gn.frozen_row HBX.out 1
          go_wp2_with fail
          exact bodyPost_ret (results_cell_row rfl _ _ W.heap.size 39 _ (0, 0) _ rfl HRS.out Try.underlying39 rfl rfl) rfl HF9.out
end Go.Proofs.Ytdknlifpoihnmaa.Tr
