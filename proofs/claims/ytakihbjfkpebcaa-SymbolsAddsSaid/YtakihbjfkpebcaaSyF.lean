/-
  The walk of symbols' appendLits; what texts a tree holds.
  The plain part of layer 7: Lits.
  The walk of symbols' Terminals.
  The plain part of layer 7: Terminals.
  The plain part of layer 7: Names.
  The plain part of layer 7: Uses; the law's texts.
  Table's table is the plain one: the names, each with its first rule and its uses.
  How many texts a parse can have: no more than tokens; what is read is small, with nothing below names and texts.
-/
import Derived.Test.YtakihbjfkpebcaaSyC
import Derived.Test.YtakihbjfkpebcaaSyE
import Derived.BigQuiet
import Derived.Deep.QuietTactic
import Derived.Test.YtakihbjfkpebcaaSyD

namespace Go.Proofs.Ytakihbjfkpebcaa.Sx
open Go.RowKit
set_option maxRecDepth 100000
set_option linter.unusedSimpArgs false
set_option linter.unusedVariables false

/-- A tree that is small and whose names and texts have nothing below them. -/
inductive LfW : Tree → Prop
  | mk (k : Nat) (t : List UInt8) (l : List Tree) (ht : t.length ≤ 1048576) (h : l.length ≤ 1048576) (hlf : k = 1 ∨ k = 2 → l = []) (hl : ∀ a ∈ l, LfW a) : LfW (.node k t l)
mutual
/-- The texts of a tree, from the left. -/
def lits : Tree → List Nam
  | .node k t l => if k = 2 then [t] else litsL l
def litsL : List Tree → List Nam
  | [] => []
  | a :: r => lits a ++ litsL r
end
theorem litsL_snoc (a : Tree) : ∀ l : List Tree, litsL (l ++ [a]) = litsL l ++ lits a
  | [] => by simp [litsL]
  | b :: l => by rw [List.cons_append, litsL, litsL, litsL_snoc a l, List.append_assoc]
theorem litsL_take (l : List Tree) (i : Nat) (h : i < l.length) : litsL (l.take (i + 1)) = litsL (l.take i) ++ lits l[i] := by
  rw [List.take_succ_eq_append_getElem h, litsL_snoc]
def LitCtr (t : Tree) : Prop := ∀ (P : Nat → Prop) (B : Nat) (W : World) (x y z v : Value) (k : Nat) (xs : List Nam), Nd P W t x y z → (∀ r, P r → r < B) → B ≤ W.heap.size → W.ownsRow B 9 1 v k (xs.map strV) → k + (lits t).length ≤ 4398046511104 →
  Calls Try.prog 31 #[v, .agg #[x, y, z]] W fun e w' => ∃ v', e = .returned v' ∧ w'.ownsRow B 9 1 v' (k + (lits t).length) ((xs ++ lits t).map strV) ∧ Below B W w'
theorem litsL_len (l : List Tree) : ∀ j, (litsL (l.take j)).length ≤ (litsL l).length := by
  induction l with
  | nil => intro j; simp [litsL]
  | cons a r ih =>
    intro j
    cases j with
    | zero => simp [litsL]
    | succ j =>
      rw [List.take_succ_cons, litsL, litsL, List.length_append, List.length_append]
      have := ih j
      omega

set_option maxHeartbeats 4000000 in
theorem lits_any {t : Tree} (h : LfW t) : LitCtr t := by
  induction h with
  | mk kd tx l htl hlen hlf hl ih =>
    intro P B W x y z v k xs hnd hP hB hown hbig
    obtain ⟨i0, hi0, hz0, hz1, hz2⟩ := info_parts strinfo
    cases hnd with
    | mk _ _ _ A cap r a b c hA hcap hc hk =>
    obtain ⟨Av, cv, rfl⟩ := Gn.slice_of hown
    obtain ⟨m, hm⟩ : ∃ m, m = l.length := ⟨_, rfl⟩
    rw [← hm] at hA hcap hc hlen ⊢
    have HMM := Lib.hid hm
    have HA := Lib.hid hA
    have HC := Lib.hid hc
    have HK := Lib.hid hk
    have HP := Lib.hid hP
    have HIH := Lib.hid ih
    have HLW := Lib.hid hl
    have hown1 : (W.alloc (.cells #[.int .i64 kd, .string (Lx.mk tx), .slice A m cap] 63)).ownsRow B 9 1 (.slice Av k cv) k (xs.map strV) := hown.alloc _
    have hb1 : Below B W (W.alloc (.cells #[.int .i64 kd, .string (Lx.mk tx), .slice A m cap] 63)) := (Below.refl _ _).alloc hB _
    have HO1 := Lib.hid hown1
    have HB1 := Lib.hid hb1
    obtain ⟨s, hs⟩ : ∃ s, s = Lx.mk tx := ⟨_, rfl⟩
    rw [← hs] at HO1 HB1 ⊢
    have HS := Lib.hid hs
    have hol0 := Gn.own_lt hown
    clear hm hA hc hk hP ih hl hown hown1 hb1 hs
    by_cases hkd : kd = 2
    · have e0 : ((kd : Int) == 2) = true := by rw [hkd]; rfl
      have er : lits (.node kd tx l) = [tx] := by rw [lits, if_pos hkd]
      have hm0 : m = 0 := by rw [HMM.out, hlf (.inr hkd)]; rfl
      subst hm0
      rw [er] at hbig ⊢
      have HBX := Lib.hid (heap_alloc_new W (.cells #[.int .i64 kd, .string s, .slice A 0 cap] 63))
      have HOL := Lib.hid hol0
      have HNEW := Lib.hid (Gn.row_new (W.alloc (.cells #[.int .i64 kd, .string s, .slice A 0 cap] 63)) [.string s] 9 (W.heap.size + 1) (by simp))
      have HO2 := Lib.hid (HO1.out.alloc (.cells #[.string s] 9))
      clear hkd er hol0 hlf
      simp only [List.length_cons, List.length_nil] at hbig ⊢
      go_enter Try.func31, Try.ntmps31
      go_wp2_with (at_builtin; refine wpList_append_lies _ rfl _ _ 34 rfl B 9 i0 _ 1 16 Try.underlying34 hi0 hz0 hz1 hz2 rfl (by decide) (.slice Av k cv) k _ rfl HO2.out ⟨W.heap.size + 1, 0, none⟩ 1 1 [.string s] rfl rfl HNEW.out (by simp [Value.oneCell']) (by decide) (by unfold maxLen; omega) (by omega) (by simp; omega) _ rfl ?_; intro gq cap' w4 hown4 hgrow4 hat4 hlt4; have HO4 := Lib.hid (show w4.ownsRow B 9 1 (.slice (some ⟨gq, 0, none⟩) (k + 1) cap') (k + 1) ((xs ++ [tx]).map strV) by rw [List.map_append]; unfold strV; rw [List.map_singleton, ← HS.out]; exact hown4); have HB4 := Lib.hid ((HB1.out.alloc (by simp; omega) _).grown hgrow4 (by simp; omega) (fun j hj => Gn.own_block HO1.out j hj)); have z2 := cell_of_row _ _ 2 _ _ (0, 0) ((hgrow4.block W.heap.size (by simp; omega) (fun e => by have := HOL.out _ e.symm; omega)).trans ((heap_alloc_old _ _ (by simp)).trans HBX.out)); clear hown4 hgrow4 hat4 hlt4)
      go_loopw [0, 18] (fun nv i wr => nv = .slice (some ⟨gq, 0, none⟩) (k + 1) cap' ∧ i = .int .i64 0 ∧ wr = w4) (fun _ i _ => 0)
      case atStart => exact ⟨rfl, rfl, rfl⟩
      case round =>
        obtain ⟨rfl, rfl, rfl⟩ := hrel
        go_wp2_with fail
        go_ret
        exact ⟨_, rfl, HO4.out, HB4.out⟩
    · have e0 : ((kd : Int) == 2) = false := by rw [beq_eq_false_iff_ne]; omega
      have er : lits (.node kd tx l) = litsL l := by rw [lits, if_neg hkd]
      rw [er] at hbig ⊢
      clear hkd er hol0 hlf
      go_enter Try.func31, Try.ntmps31
      go_wp2_with fail
      generalize hV : World.alloc W _ = V
      rw [hV] at HO1 HB1
      clear hV
      go_loopw [0, 18] (fun nv i wr => ∃ (j : Nat), j ≤ m ∧ i = .int .i64 j ∧ wr.ownsRow B 9 1 nv (k + (litsL (l.take j)).length) ((xs ++ litsL (l.take j)).map strV) ∧ Below B W wr ∧ B ≤ wr.heap.size) (fun _ i _ => m - (intOf i).toNat)
      case atStart => exact ⟨0, Nat.zero_le _, rfl, by simpa [litsL] using HO1.out, HB1.out, by have := HB1.out.size; omega⟩
      case round =>
        obtain ⟨j, hj, rfl, hown, hb, hsz⟩ := hrel
        have HO := Lib.hid hown
        have HB := Lib.hid hb
        clear hown hb
        by_cases hjm : j < m
        · have hjm2 : (j : Int) < (m : Int) := by omega
          have hjl : j < l.length := by rw [← HMM.out]; exact hjm
          obtain ⟨eA, hr, hPr⟩ := HA.out (by omega)
          subst eA
          have hrB : r < B := HP.out r hPr
          obtain ⟨q0, q1, q2⟩ := HC.out j hjm
          have y0 := (HB.out.cell (p := ⟨r, j * 3, none⟩) hrB).trans q0
          have y1 := (HB.out.cell (p := ⟨r, j * 3 + 1, none⟩) hrB).trans q1
          have y2 := (HB.out.cell (p := ⟨r, j * 3 + 2, none⟩) hrB).trans q2
          have hkj := (HK.out j hjl).keep (Q := P) HB.out.size (fun q hp _ => ⟨hp, fun i => HB.out.cell (p := ⟨q, i, none⟩) (HP.out q hp)⟩)
          have hlt := litsL_take l j hjl
          have hle := litsL_len l (j + 1)
          have HTL := Lib.hid hlt
          have hlen2 : (litsL (l.take (j + 1))).length = (litsL (l.take j)).length + (lits l[j]).length := by rw [hlt, List.length_append]
          have HL2 := Lib.hid hlen2
          obtain ⟨kk, ss, AA, qq, cc, f1, f2, f3⟩ := hkj.form
          rw [f1] at y0
          rw [f2] at y1
          rw [f3] at y2
          rw [f1, f2, f3] at hkj
          have HKJ := Lib.hid (fun o => (HIH.out _ (List.getElem_mem hjl)) P B (wr.alloc o) _ _ _ _ _ _ (hkj.under ((Below.refl _ _).alloc (Nat.le_refl _) o)) HP.out (by simp; omega) (HO.out.alloc o) (by omega))
          clear q0 q1 q2 hkj hlt hle hlen2 f1 f2 f3
          go_wp2_with fail
          refine (HKJ.out _).mono ?_
          rintro e w3 ⟨v3, rfl, ho3, hb3⟩
          have HO3 := Lib.hid (show w3.ownsRow B 9 1 v3 (k + (litsL (l.take (j + 1))).length) ((xs ++ litsL (l.take (j + 1))).map strV) by rw [HL2.out, HTL.out, ← Nat.add_assoc, ← List.append_assoc]; exact ho3)
          have HB3 := Lib.hid ((HB.out.alloc hsz _).trans hb3)
          have hs3 : B ≤ w3.heap.size := by have := hb3.size; simp at this; omega
          clear ho3 hb3 y0 y1 y2
          go_wp2_with fail
          go_roundw
          case rel => exact ⟨j + 1, by omega, by simp, HO3.out, HB3.out, hs3⟩
          case measure => simp [intOf]; omega
        · have hje : m = j := by omega
          subst hje
          have hjm2 : ¬ ((m : Nat) : Int) < ((m : Nat) : Int) := by omega
          have HT := Lib.hid (show l.take m = l by rw [HMM.out, List.take_length])
          go_wp2_with fail
          go_ret
          exact ⟨_, rfl, by have := HO.out; rw [HT.out, List.map_append] at this; exact this, HB.out⟩
end Go.Proofs.Ytakihbjfkpebcaa.Sx

namespace Go.Proofs.Ytakihbjfkpebcaa.Sx
open Go.RowKit
set_option maxRecDepth 100000
set_option linter.unusedSimpArgs false
set_option linter.unusedVariables false

set_option maxHeartbeats 4000000 in
theorem litq_any {t : Tree} (h : LfW t) : ∀ (P : Nat → Prop) (W : World) (x y z : Value), Nd P W t x y z → (∀ r, P r → r < W.heap.size) → (lits t).length ≤ 4398046511104 →
    Calls Try.prog 33 #[.agg #[x, y, z]] W fun e w' => ∃ v', e = .returned v' ∧ w'.ownsRow W.heap.size 9 1 v' (lits t).length ((lits t).map strV) ∧ Below W.heap.size W w' := by
  induction h with
  | mk kd tx l htl hlen hlf hl ih =>
    intro P W x y z hnd hP hbig
    cases hnd with
    | mk _ _ _ A cap r a b c hA hcap hc hk =>
    obtain ⟨m, hm⟩ : ∃ m, m = l.length := ⟨_, rfl⟩
    rw [← hm] at hA hcap hc hlen ⊢
    have HMM := Lib.hid hm
    have HA := Lib.hid hA
    have HC := Lib.hid hc
    have HK := Lib.hid hk
    have HP := Lib.hid hP
    have HIH := Lib.hid ih
    have HB1 := Lib.hid ((Below.refl W.heap.size W).alloc (Nat.le_refl _) (.cells #[.int .i64 kd, .string (Lx.mk tx), .slice A m cap] 57))
    obtain ⟨s, hs⟩ : ∃ s, s = Lx.mk tx := ⟨_, rfl⟩
    rw [← hs] at HB1 ⊢
    have HS := Lib.hid hs
    have HLF := Lib.hid hlf
    clear hm hA hc hk hP ih hl hs hlf
    by_cases hkd : kd = 2
    · have e0 : ((kd : Int) == 2) = true := by rw [hkd]; rfl
      have er : lits (.node kd tx l) = [tx] := by rw [lits, if_pos hkd]
      rw [er]
      have ho := World.ownsRow_lit (base := W.heap.size) (e := 9) (size := 1) (W.alloc (.cells #[.int .i64 kd, .string s, .slice A m cap] 57)) #[.string s] 1 (by simp) (by decide) rfl
      rw [heap_size_alloc'] at ho
      have HO := Lib.hid ho
      clear ho
      have HB2 := Lib.hid (HB1.out.alloc (by simp) (.cells #[.string s] 9))
      clear hkd er
      go_enter Try.func33, Try.ntmps33
      go_wp2_with fail
      go_ret
      exact ⟨_, rfl, by have := HO.out; rw [HS.out] at this ⊢; exact this, HB2.out⟩
    · have e0 : ((kd : Int) == 2) = false := by rw [beq_eq_false_iff_ne]; omega
      have er : lits (.node kd tx l) = litsL l := by rw [lits, if_neg hkd]
      rw [er] at hbig ⊢
      have hbx := heap_alloc_new W (.cells #[.int .i64 kd, .string s, .slice A m cap] 57)
      have HBX := Lib.hid hbx
      have x2 := cell_of_row _ _ 2 _ _ (0, 0) hbx
      have x0 := cell_of_row _ _ 0 _ _ (0, 0) hbx
      clear hkd er hbx
      go_enter Try.func33, Try.ntmps33
      go_wp2_with fail
      generalize hV : World.alloc W _ = V
      rw [hV] at HB1 HBX x2 x0
      have hV1 : W.heap.size < V.heap.size := by rw [← hV]; simp
      clear hV
      go_loopw [3, 4] (fun nv i wr => ∃ (j : Nat), j ≤ m ∧ i = .int .i64 j ∧ wr.ownsRow (W.heap.size + 1) 9 1 nv (litsL (l.take j)).length ((litsL (l.take j)).map strV) ∧ wr.heap[W.heap.size]? = some (.cells #[.int .i64 kd, .string s, .slice A m cap] 57 (0, 0)) ∧ Below W.heap.size W wr) (fun _ i _ => m - (intOf i).toNat)
      case atStart => exact ⟨0, Nat.zero_le _, rfl, by simpa [litsL] using World.ownsRow_nil _ _ _ _, HBX.out, HB1.out⟩
      case round =>
        obtain ⟨j, hj, rfl, hown, hbx, hb⟩ := hrel
        have HO := Lib.hid hown
        have HB := Lib.hid hb
        have HBX := Lib.hid hbx
        have z2 := cell_of_row _ _ 2 _ _ (0, 0) hbx
        have z0 := cell_of_row _ _ 0 _ _ (0, 0) hbx
        have hsz := Gn.heap_lt hbx
        obtain ⟨Av, cv, rfl⟩ := Gn.slice_of hown
        have hlt0 := Gn.own_lt hown
        clear hown hb hbx
        by_cases hjm : j < m
        · have hjm2 : (j : Int) < (m : Int) := by omega
          have hjl : j < l.length := by rw [← HMM.out]; exact hjm
          have e9 : ((kd : Int) != 1) = true := by
            rw [bne_iff_ne]
            intro e
            have := HLF.out (.inl (by omega))
            rw [this] at hjl
            simp at hjl
          obtain ⟨eA, hr, hPr⟩ := HA.out (by omega)
          subst eA
          have hrB : r < W.heap.size := HP.out r hPr
          obtain ⟨q0, q1, q2⟩ := HC.out j hjm
          have y0 := (HB.out.cell (p := ⟨r, j * 3, none⟩) hrB).trans q0
          have y1 := (HB.out.cell (p := ⟨r, j * 3 + 1, none⟩) hrB).trans q1
          have y2 := (HB.out.cell (p := ⟨r, j * 3 + 2, none⟩) hrB).trans q2
          have hkj := (HK.out j hjl).keep (Q := P) HB.out.size (fun q hp _ => ⟨hp, fun i => HB.out.cell (p := ⟨q, i, none⟩) (HP.out q hp)⟩)
          have hlt := litsL_take l j hjl
          have hle := litsL_len l (j + 1)
          have HTL := Lib.hid hlt
          have hlen2 : (litsL (l.take (j + 1))).length = (litsL (l.take j)).length + (lits l[j]).length := by rw [hlt, List.length_append]
          have HL2 := Lib.hid hlen2
          obtain ⟨kk, ss, AA, qq, cc, f1, f2, f3⟩ := hkj.form
          rw [f1] at y0
          rw [f2] at y1
          rw [f3] at y2
          rw [f1, f2, f3] at hkj
          have HKJ := Lib.hid (HIH.out _ (List.getElem_mem hjl) P wr _ _ _ hkj (fun q hq => Nat.lt_of_lt_of_le (HP.out q hq) HB.out.size) (by omega))
          obtain ⟨N, hN⟩ : ∃ N, N = (litsL (l.take j)).length := ⟨_, rfl⟩
          have hsum : N + (lits l[j]).length ≤ 4398046511104 := by omega
          have HSUM := Lib.hid hsum
          rw [← hN] at HO hlt0 ⊢
          have HN := Lib.hid hN
          clear q0 q1 q2 hkj hlt hle hlen2 f1 f2 f3 hN hsum
          go_wp2_with fail
          refine HKJ.out.mono ?_
          rintro e w3 ⟨v3, rfl, ho3, hb3⟩
          have HO3 := Lib.hid (HO.out.kept (row := none) ⟨hb3.os, hb3.tape, hb3.output, hb3.size, fun q hq _ => hb3.block q hq⟩ (by
            rcases h : (Value.slice Av N cv).ownBlock with _ | g
            · exact .inl rfl
            · exact .inr (by simp)))
          have HNM := Lib.hid (NmsAt.of_own rfl ho3)
          have HBX3 := Lib.hid ((hb3.block _ hsz).trans HBX.out)
          have HB3 := Lib.hid (HB.out.trans (hb3.mono HB.out.size))
          have hs3 : W.heap.size + 1 ≤ w3.heap.size := by have := hb3.size; omega
          have HOB := Lib.hid (Gn.own_block HO.out)
          clear ho3 hb3 y0 y1 y2
          go_wp2_with (at_builtin; refine wpList_append_nms _ rfl _ _ rfl (W.heap.size + 1) (.slice Av N cv) N _ rfl HO3.out (lits l[j]) _ rfl HNM.out HSUM.out hs3 ?_; intro v4 w4 ho4 hg4 hat4; have HO4 := Lib.hid ho4; have HG4 := Lib.hid hg4; clear ho4 hg4 hat4)
          have HB4 := Lib.hid (show Below W.heap.size W w4 from HB3.out.trans ⟨HG4.out.os, HG4.out.tape, HG4.out.output, HG4.out.size, fun q hq => HG4.out.block q (by omega) (fun e => by have := HOB.out q e.symm; omega)⟩)
          have HBX4 := Lib.hid ((HG4.out.block W.heap.size (by omega) (fun e => by have := HOB.out _ e.symm; omega)).trans HBX3.out)
          go_roundw
          case rel => exact ⟨j + 1, by omega, by simp, by rw [HL2.out, HTL.out, ← HN.out, List.map_append]; exact HO4.out, HBX4.out, HB4.out⟩
          case measure => simp [intOf]; omega
        · have hje : m = j := by omega
          subst hje
          have hjm2 : ¬ ((m : Nat) : Int) < ((m : Nat) : Int) := by omega
          have HT := Lib.hid (show l.take m = l by rw [HMM.out, List.take_length])
          go_wp2_with fail
          go_ret
          exact ⟨_, rfl, by have := HO.out; rw [HT.out] at this ⊢; exact own_mono1 this (Nat.le_succ _), HB.out⟩
end Go.Proofs.Ytakihbjfkpebcaa.Sx

namespace Go.Proofs.Ytakihbjfkpebcaa.Sx
open Go.RowKit
set_option maxRecDepth 100000
set_option linter.unusedSimpArgs false
set_option linter.unusedVariables false

theorem litsL_mem {s : Nam} : ∀ l : List Tree, s ∈ litsL l → ∃ a ∈ l, s ∈ lits a
  | [], h => by simp [litsL] at h
  | a :: l, h => by
    rw [litsL, List.mem_append] at h
    rcases h with h | h
    · exact ⟨a, by simp, h⟩
    · obtain ⟨b, hb, hs⟩ := litsL_mem l h
      exact ⟨b, by simp [hb], hs⟩
theorem lits_small {t : Tree} (h : LfW t) : ∀ s ∈ lits t, s.length ≤ 1048576 := by
  induction h with
  | mk k t l ht hlen hlf hl ih =>
    intro s hs
    rw [lits] at hs
    split at hs
    · rw [List.mem_singleton] at hs; subst hs; exact ht
    · obtain ⟨a, ha, hs⟩ := litsL_mem l hs
      exact ih a ha s hs
def litsR (l : List Rul) : List Nam := l.flatMap fun r => lits r.2
theorem litsR_snoc (l : List Rul) (r : Rul) : litsR (l ++ [r]) = litsR l ++ lits r.2 := by simp [litsR]
theorem litsR_len (K : Nat) : ∀ l : List Rul, (∀ r ∈ l, (lits r.2).length ≤ K) → (litsR l).length ≤ l.length * K
  | [], _ => by simp [litsR]
  | r :: l, h => by
    have h1 := litsR_len K l (fun q hq => h q (by simp [hq]))
    have h2 := h r (by simp)
    rw [show litsR (r :: l) = lits r.2 ++ litsR l from rfl, List.length_append, List.length_cons, Nat.succ_mul]
    omega
theorem litsR_mem {s : Nam} {l : List Rul} (h : s ∈ litsR l) : ∃ r ∈ l, s ∈ lits r.2 := by
  unfold litsR at h
  exact List.mem_flatMap.mp h

set_option maxHeartbeats 8000000 in
theorem terms_any (G : Gram) (hn64 : G.rules.length ≤ 1024) (K : Nat) (hK : K ≤ 1048576) (hsm : ∀ r ∈ G.rules, LfW r.2 ∧ (lits r.2).length ≤ K) (P : Nat → Prop) (W : World) (y : Value) (h : RlsAt P W G.rules y) :
    Calls Try.prog 13 #[.agg #[.string (Lx.mk G.start), y]] W fun e w' => ∃ v', e = .returned v' ∧ w'.ownsRow W.heap.size 9 1 v' (onceP (litsR G.rules)).length ((onceP (litsR G.rules)).map strV) ∧ Below W.heap.size W w' := by
  have hq := h.keep (Q := fun r => r < W.heap.size) (Nat.le_refl _) (fun r _ hr => ⟨hr, fun _ => rfl⟩)
  obtain ⟨A, cap, b, a0, a1, a2, rfl, hcap, h3, h4⟩ := hq
  obtain ⟨rs, hrs⟩ : ∃ rs, rs = G.rules := ⟨_, rfl⟩
  rw [← hrs] at hn64 hsm h3 h4 hcap ⊢
  obtain ⟨n, hn⟩ : ∃ n, n = rs.length := ⟨_, rfl⟩
  rw [← hn] at h3 hn64 hcap ⊢
  obtain ⟨ss, hss⟩ : ∃ ss, ss = Lx.mk G.start := ⟨_, rfl⟩
  rw [← hss]
  have HBB := Lib.hid ((Below.refl W.heap.size W).alloc (Nat.le_refl _) (.cells #[.string ss, .slice A n cap] 25))
  have x1 := cell_of_row _ _ 1 _ _ (0, 0) (heap_alloc_new W (.cells #[.string ss, .slice A n cap] 25))
  have HN := Lib.hid hn
  have HSM := Lib.hid hsm
  have H3 := Lib.hid h3
  have H4 := Lib.hid h4
  clear hn hrs hsm h3 h4 h hss
  go_enter Try.func13, Try.ntmps13
  go_wp2_with fail
  generalize hV : World.alloc W _ = V
  rw [hV] at HBB
  clear hV x1
  go_loopw [3, 9] (fun nv i wr => ∃ j : Nat, j ≤ n ∧ i = .int .i64 j ∧ wr.ownsRow W.heap.size 9 1 nv (litsR (rs.take j)).length ((litsR (rs.take j)).map strV) ∧ Below W.heap.size W wr) (fun _ i _ => n - (intOf i).toNat)
  case atStart => exact ⟨0, Nat.zero_le _, rfl, by simpa [litsR] using World.ownsRow_nil _ _ _ _, HBB.out⟩
  case round =>
    obtain ⟨k, hk, rfl, hown, hb⟩ := hrel
    have HO := Lib.hid hown
    have HB := Lib.hid hb
    obtain ⟨Av, cv, rfl⟩ := Gn.slice_of hown
    clear hown hb
    have hll : (litsR (rs.take k)).length ≤ 1073741824 := by
      have h6 := litsR_len K (rs.take k) (fun r hr => (HSM.out r (List.mem_of_mem_take hr)).2)
      have h7 : (rs.take k).length ≤ 1024 := by rw [List.length_take]; omega
      have h8 := Nat.mul_le_mul h7 hK
      omega
    by_cases hlt : k < n
    · have hlt2 : (k : Int) < (n : Int) := by omega
      have hkl : k < rs.length := by rw [← HN.out]; exact hlt
      obtain ⟨rfl, hbl, _⟩ := H3.out (by omega)
      obtain ⟨⟨q0, q1, q2, q3⟩, hnd⟩ := H4.out k hkl
      obtain ⟨kk, ta, AA, qq, cc, f1, f2, f3⟩ := hnd.form
      rw [f1] at q1
      rw [f2] at q2
      rw [f3] at q3
      rw [f1, f2, f3] at hnd
      obtain ⟨s2, s3⟩ := HSM.out _ (List.getElem_mem hkl)
      have HTK := Lib.hid (show litsR (rs.take (k + 1)) = litsR (rs.take k) ++ lits rs[k].2 by rw [List.take_succ_eq_append_getElem hkl, litsR_snoc])
      obtain ⟨nm, hnm⟩ : ∃ nm, nm = Lx.mk rs[k].1 := ⟨_, rfl⟩
      rw [← hnm] at q0
      have y0 := (HB.out.cell (p := ⟨b, k * 4, none⟩) hbl).trans q0
      have y1 := (HB.out.cell (p := ⟨b, k * 4 + 1, none⟩) hbl).trans q1
      have y2 := (HB.out.cell (p := ⟨b, k * 4 + 2, none⟩) hbl).trans q2
      have y3 := (HB.out.cell (p := ⟨b, k * 4 + 3, none⟩) hbl).trans q3
      have HB1 := Lib.hid (HB.out.alloc HB.out.size (.cells #[.string nm, .int .i64 kk, .string ta, .slice AA qq cc] 65))
      have HK1 := Lib.hid (lits_any s2 (fun q => q < W.heap.size) W.heap.size (wr.alloc (.cells #[.string nm, .int .i64 kk, .string ta, .slice AA qq cc] 65)) _ _ _ _ _ _ (hnd.keep HB1.out.size (fun q hq _ => ⟨hq, fun i => HB1.out.cell (p := ⟨q, i, none⟩) hq⟩)) (fun _ h => h) HB1.out.size (HO.out.alloc _) (by omega))
      clear q0 q1 q2 q3 hnd f1 f2 f3 s2 s3 hnm
      go_wp2_with fail
      refine HK1.out.mono ?_
      rintro e w3 ⟨v3, rfl, ho3, b3⟩
      have HO3 := Lib.hid ho3
      have HB3 := Lib.hid (HB1.out.trans b3)
      clear ho3 b3
      go_wp2_with fail
      go_roundw
      case rel => exact ⟨k + 1, by omega, by simp, by rw [HTK.out, List.length_append]; exact HO3.out, HB3.out⟩
      case measure => simp [intOf]; omega
    · have hke : n = k := by omega
      subst hke
      have hlt2 : ¬ ((n : Nat) : Int) < ((n : Nat) : Int) := by omega
      have HT := Lib.hid (show rs.take n = rs by rw [HN.out, List.take_length])
      have hon := HO.out
      rw [HT.out] at hon hll ⊢
      have HKO := Lib.hid (once_any (litsR rs) (by omega) (fun s hs => by obtain ⟨r, hr, h⟩ := litsR_mem hs; exact lits_small (HSM.out r hr).1 s h) wr _ (NmsAt.of_own rfl hon))
      clear hon HO
      go_wp2_with fail
      refine HKO.out.mono ?_
      rintro e w3 ⟨v3, rfl, ho3, b3⟩
      have HO3 := Lib.hid ho3
      have HB3 := Lib.hid (HB.out.trans (b3.mono HB.out.size))
      have HBS := Lib.hid HB.out.size
      clear ho3 b3
      go_wp2
      go_ret
      exact ⟨_, rfl, own_mono1 HO3.out HBS.out, HB3.out⟩
end Go.Proofs.Ytakihbjfkpebcaa.Sx

namespace Go.Proofs.Ytakihbjfkpebcaa.Sx
open Go.RowKit
set_option maxRecDepth 100000
set_option linter.unusedSimpArgs false
set_option linter.unusedVariables false

/-- The names so far, the grammar's box. -/
structure NmQ (W0 : World) (cs : Array Value) (pv : Value) (xs : List Nam) (W : World) : Prop where
  box : W.heap[W0.heap.size]? = some (.cells cs 30 (0, 0))
  row : W.ownsRow (W0.heap.size + 1) 9 1 pv xs.length (xs.map strV)
  below : Below W0.heap.size W0 W
section
variable {W0 W W' : World} {cs : Array Value} {pv v' : Value} {xs : List Nam}
theorem NmQ.under (h : NmQ W0 cs pv xs W) (b : Below W.heap.size W W') : NmQ W0 cs pv xs W' :=
  ⟨(b.block _ (Gn.heap_lt h.box)).trans h.box, own_under h.row b, h.below.trans (b.mono h.below.size)⟩
theorem NmQ.snoc (h : NmQ W0 cs pv xs W) (x : Nam) (ho : W'.ownsRow (W0.heap.size + 1) 9 1 v' (xs.length + 1) (xs.map strV ++ [strV x])) (hg : W.grownBy W' pv.ownBlock) : NmQ W0 cs v' (xs ++ [x]) W' := by
  have hob := fun j hj => Gn.own_block h.row j hj
  refine ⟨(hg.block _ (Gn.heap_lt h.box) (fun e => by have := hob _ e.symm; omega)).trans h.box, ?_, h.below.grown hg h.below.size (fun j hj => by have := hob j hj; omega)⟩
  rw [List.length_append, List.map_append]
  exact ho
end
theorem onceP_snoc (X : List Nam) (a : Nam) : onceP (X ++ [a]) = if a ∈ onceP X then onceP X else onceP X ++ [a] := onceGo_snoc a X []

set_option maxHeartbeats 8000000 in
theorem termsq_any (G : Gram) (hn64 : G.rules.length ≤ 1024) (K : Nat) (hK : K ≤ 1048576) (hsm : ∀ r ∈ G.rules, LfW r.2 ∧ (lits r.2).length ≤ K) (P : Nat → Prop) (W : World) (y : Value) (h : RlsAt P W G.rules y) :
    Calls Try.prog 14 #[.agg #[.string (Lx.mk G.start), y]] W fun e w' => ∃ v', e = .returned v' ∧ w'.ownsRow W.heap.size 9 1 v' (onceP (litsR G.rules)).length ((onceP (litsR G.rules)).map strV) ∧ Below W.heap.size W w' := by
  obtain ⟨i0, hi0, hz0, hz1, hz2⟩ := info_parts strinfo
  have hq := h.keep (Q := fun r => r < W.heap.size) (Nat.le_refl _) (fun r _ hr => ⟨hr, fun _ => rfl⟩)
  obtain ⟨A, cap, b, a0, a1, a2, rfl, hcap, h3, h4⟩ := hq
  obtain ⟨rs, hrs⟩ : ∃ rs, rs = G.rules := ⟨_, rfl⟩
  rw [← hrs] at hn64 hsm h3 h4 hcap ⊢
  obtain ⟨n, hn⟩ : ∃ n, n = rs.length := ⟨_, rfl⟩
  rw [← hn] at h3 hn64 hcap ⊢
  obtain ⟨ss, hss⟩ : ∃ ss, ss = Lx.mk G.start := ⟨_, rfl⟩
  rw [← hss]
  have HBB := Lib.hid ((Below.refl W.heap.size W).alloc (Nat.le_refl _) (.cells #[.string ss, .slice A n cap] 30))
  have HBX := Lib.hid (heap_alloc_new W (.cells #[.string ss, .slice A n cap] 30))
  have HN := Lib.hid hn
  have HSM := Lib.hid hsm
  have H3 := Lib.hid h3
  have H4 := Lib.hid h4
  clear hn hrs hsm h3 h4 h hss
  go_enter Try.func14, Try.ntmps14
  go_wp2_with fail
  generalize hV : World.alloc W _ = V
  rw [hV] at HBB HBX
  clear hV
  have HA0 := Lib.hid (show NmQ W #[.string ss, .slice A n cap] (.slice none 0 0) [] V from ⟨HBX.out, World.ownsRow_nil _ _ _ _, HBB.out⟩)
  clear HBX HBB
  go_loopw [3, 4] (fun nv i wr => ∃ j : Nat, j ≤ n ∧ i = .int .i64 j ∧ NmQ W #[.string ss, .slice A n cap] nv (onceP (litsR (rs.take j))) wr) (fun _ i _ => n - (intOf i).toNat)
  case atStart => exact ⟨0, Nat.zero_le _, rfl, HA0.out⟩
  case round =>
    obtain ⟨k, hk, rfl, hA⟩ := hrel
    obtain ⟨Av, cv, hpv⟩ := Gn.slice_of hA.row
    subst hpv
    have HA := Lib.hid hA
    have z1 := cell_of_row _ _ 1 _ _ (0, 0) hA.box
    have hll : (litsR (rs.take k)).length ≤ 1073741824 := by
      have h6 := litsR_len K (rs.take k) (fun r hr => (HSM.out r (List.mem_of_mem_take hr)).2)
      have h7 : (rs.take k).length ≤ 1024 := by rw [List.length_take]; omega
      have h8 := Nat.mul_le_mul h7 hK
      omega
    clear hA
    by_cases hlt : k < n
    · have hlt2 : (k : Int) < (n : Int) := by omega
      have hkl : k < rs.length := by rw [← HN.out]; exact hlt
      obtain ⟨rfl, hbl, _⟩ := H3.out (by omega)
      obtain ⟨⟨q0, q1, q2, q3⟩, hnd⟩ := H4.out k hkl
      obtain ⟨kk, ta, AA, qq, cc, f1, f2, f3⟩ := hnd.form
      rw [f1] at q1
      rw [f2] at q2
      rw [f3] at q3
      rw [f1, f2, f3] at hnd
      obtain ⟨s2, s3⟩ := HSM.out _ (List.getElem_mem hkl)
      have HTK := Lib.hid (show litsR (rs.take (k + 1)) = litsR (rs.take k) ++ lits rs[k].2 by rw [List.take_succ_eq_append_getElem hkl, litsR_snoc])
      have y1 := (HA.out.below.cell (p := ⟨b, k * 4 + 1, none⟩) hbl).trans q1
      have y2 := (HA.out.below.cell (p := ⟨b, k * 4 + 2, none⟩) hbl).trans q2
      have y3 := (HA.out.below.cell (p := ⟨b, k * 4 + 3, none⟩) hbl).trans q3
      have HRF := Lib.hid (litq_any s2 (fun q => q < W.heap.size) wr _ _ _ (hnd.keep HA.out.below.size (fun q hq _ => ⟨hq, fun i => HA.out.below.cell (p := ⟨q, i, none⟩) hq⟩)) (fun q hq => Nat.lt_of_lt_of_le hq HA.out.below.size) (by omega))
      obtain ⟨bd, hbd⟩ : ∃ bd, bd = lits rs[k].2 := ⟨_, rfl⟩
      rw [← hbd] at HRF HTK s3
      obtain ⟨X, hX⟩ : ∃ X, X = litsR (rs.take k) := ⟨_, rfl⟩
      rw [← hX] at HA HTK hll ⊢
      clear q0 q1 q2 q3 hnd f1 f2 f3 s2 hbd hX
      go_wp2_with fail
      refine HRF.out.mono ?_
      rintro e w5 ⟨v5, rfl, ho5, b5⟩
      have HA5 := Lib.hid (HA.out.under b5)
      have hown5 := Gn.own_lt HA.out.row
      have hms := NmsAt.of_own rfl ho5
      have hob5 := Gn.own_block ho5
      obtain ⟨A5, c5, b6, rfl, m3, m4⟩ := hms
      obtain ⟨nl, hnl⟩ : ∃ nl, nl = bd.length := ⟨_, rfl⟩
      rw [← hnl] at m3 s3 ⊢
      have HNL := Lib.hid hnl
      have HM3 := Lib.hid m3
      have HM4 := Lib.hid m4
      have HSEP := Lib.hid (show ∀ g, (Value.slice Av (onceP X).length cv).ownBlock = some g → 0 < nl → g ≠ b6 from fun g hg h0 e => by
        have h1 := hown5 g hg
        have h2 := hob5 b6 (by rw [(m3 h0).1]; rfl)
        omega)
      clear hnl m3 m4 ho5 b5 hob5 hown5 HRF y1 y2 y3 z1
      go_wp2_with fail
      go_loopw [3, 6] (fun nv i wx => ∃ j : Nat, j ≤ nl ∧ i = .int .i64 j ∧ NmQ W #[.string ss, .slice (some ⟨b, 0, none⟩) n cap] nv (onceP (X ++ bd.take j)) wx ∧ (∀ i (h : i < bd.length), wx.cell? ⟨b6, i, none⟩ = some (strV bd[i])) ∧ (∀ g, nv.ownBlock = some g → 0 < nl → g ≠ b6) ∧ (0 < nl → b6 < wx.heap.size)) (fun _ i _ => nl - (intOf i).toNat)
      case atStart => exact ⟨0, Nat.zero_le _, rfl, by rw [List.take_zero, List.append_nil]; exact HA5.out, HM4.out, HSEP.out, fun h0 => (HM3.out h0).2⟩
      case round =>
        obtain ⟨j, hj, rfl, hA, hcl, hsep, hbl6⟩ := hrel
        obtain ⟨Aq, cq, hpv⟩ := Gn.slice_of hA.row
        subst hpv
        have HCL := Lib.hid hcl
        have HSP := Lib.hid hsep
        have HBL := Lib.hid hbl6
        have HA := Lib.hid hA
        have htl : (bd.take j).length ≤ nl := by rw [List.length_take]; omega
        have hol := onceP_le (X ++ bd.take j)
        rw [List.length_append] at hol
        clear hA hcl hsep hbl6
        by_cases hjn : j < nl
        · have hjn2 : (j : Int) < (nl : Int) := by omega
          have hjl : j < bd.length := by rw [← HNL.out]; exact hjn
          obtain ⟨rfl, _⟩ := HM3.out (by omega)
          have yx := HCL.out j hjl
          have HTU := Lib.hid (show onceP (X ++ bd.take (j + 1)) = if bd[j] ∈ onceP (X ++ bd.take j) then onceP (X ++ bd.take j) else onceP (X ++ bd.take j) ++ [bd[j]] by rw [List.take_succ_eq_append_getElem hjl, ← List.append_assoc, onceP_snoc])
          obtain ⟨x, hx⟩ : ∃ x, x = bd[j] := ⟨_, rfl⟩
          rw [← hx] at yx HTU
          obtain ⟨T, hT⟩ : ∃ T, T = onceP (X ++ bd.take j) := ⟨_, rfl⟩
          rw [← hT] at HA HTU HSP hol ⊢
          have HKI := Lib.hid (in_any T (by omega) x wr _ (NmsAt.of_own rfl HA.out.row))
          obtain ⟨xm, hxm⟩ : ∃ xm, xm = Lx.mk x := ⟨_, rfl⟩
          unfold strV at yx
          rw [← hxm] at yx HKI
          have HXM := Lib.hid hxm
          obtain ⟨L, hL⟩ : ∃ L, L = T.length := ⟨_, rfl⟩
          rw [← hL] at hol HKI HSP ⊢
          have HLL := Lib.hid hL
          have HROW := Lib.hid (show (wr.alloc (.cells #[.string xm] 9)).ownsRow (W.heap.size + 1) 9 1 (.slice Aq L cq) L (T.map strV) by rw [hL]; exact HA.out.row.alloc _)
          have HAL := Lib.hid (show NmQ W #[.string ss, .slice (some ⟨b, 0, none⟩) n cap] (.slice Aq L cq) T (wr.alloc (.cells #[.string xm] 9)) by rw [hL]; exact HA.out.under ((Below.refl _ _).alloc (Nat.le_refl _) _))
          have HNEW := Lib.hid (Gn.row_new wr [.string xm] 9 wr.heap.size rfl)
          have hLb : L ≤ 1100000000 := by omega
          clear hx hxm hL hT htl
          by_cases hin : x ∈ T
          · rw [if_pos hin] at HTU
            rw [decide_eq_true hin] at HKI
            have HA2 := Lib.hid (show NmQ W #[.string ss, .slice (some ⟨b, 0, none⟩) n cap] (.slice Aq L cq) T wr by rw [HLL.out]; exact HA.out)
            clear hin
            go_wp2_with fail
            refine HKI.out.mono ?_
            rintro e w6 ⟨rfl, rfl⟩
            go_wp2_with fail
            go_roundw
            case rel => exact ⟨j + 1, by omega, by simp, by rw [HTU.out]; exact HA2.out, HCL.out, HSP.out, HBL.out⟩
            case measure => simp [intOf]; omega
          · rw [if_neg hin] at HTU
            rw [decide_eq_false hin] at HKI
            clear hin
            go_wp2_with fail
            refine HKI.out.mono ?_
            rintro e w6 ⟨rfl, rfl⟩
            go_wp2_with (at_builtin; refine wpList_append_lies _ rfl _ _ 34 rfl (W.heap.size + 1) 9 i0 _ 1 16 Try.underlying34 hi0 hz0 hz1 hz2 rfl (by decide) (.slice Aq L cq) L _ rfl HROW.out ⟨w6.heap.size, 0, none⟩ 1 1 [.string xm] rfl rfl HNEW.out (by simp [Value.oneCell']) (by decide) (by unfold maxLen; omega) (by omega) (by have := Gn.heap_lt HAL.out.box; simp at this ⊢; omega) _ rfl ?_; intro gq cap' w4 hown4 hgrow4 hat4 hlt4; have H4x := Lib.hid (HAL.out.snoc x (v' := .slice (some ⟨gq, 0, none⟩) (L + 1) cap') (by rw [← HLL.out]; have h7 := hown4; rw [HXM.out] at h7; exact h7) hgrow4); have HG4 := Lib.hid hgrow4; have HT4 := Lib.hid hat4; clear hown4 hgrow4 hat4 hlt4)
            have hcl4 : ∀ i (h : i < bd.length), w4.cell? ⟨b6, i, none⟩ = some (strV bd[i]) := fun i hi => by
              have h0 : 0 < nl := by omega
              have h8 := HBL.out h0
              exact (Gn.cell_same ((HG4.out.block b6 (by simp; omega) (fun e => HSP.out b6 e.symm h0 rfl)).trans (heap_alloc_old _ _ h8)) i).trans (HCL.out i hi)
            have hsep4 : ∀ g, (Value.slice (some ⟨gq, 0, none⟩) (L + 1) cap').ownBlock = some g → 0 < nl → g ≠ b6 := fun g hg h0 e => by
              have hg : gq = g := by injection hg
              subst hg
              rcases HT4.out with h7 | h7
              · exact HSP.out gq h7 h0 e
              · have := HBL.out h0
                simp at h7
                omega
            have hbl4 : 0 < nl → b6 < w4.heap.size := fun h0 => by have h8 := HG4.out.size; have := HBL.out h0; simp at h8; omega
            have HC4 := Lib.hid hcl4
            have HS4 := Lib.hid hsep4
            have HL4 := Lib.hid hbl4
            clear hcl4 hsep4 hbl4
            go_roundw
            case rel => exact ⟨j + 1, by omega, by simp, by rw [HTU.out]; exact H4x.out, HC4.out, HS4.out, HL4.out⟩
            case measure => simp [intOf]; omega
        · have hje : nl = j := by omega
          subst hje
          have hjn2 : ¬ ((nl : Nat) : Int) < ((nl : Nat) : Int) := by omega
          have HFIN := Lib.hid (show litsR (rs.take (k + 1)) = X ++ bd.take nl by rw [HTK.out, HNL.out, List.take_length])
          go_wp2_with fail
          go_roundw
          case rel => exact ⟨k + 1, by omega, by simp, by rw [HFIN.out]; exact HA.out⟩
          case measure => simp [intOf]; omega
    · have hke : n = k := by omega
      subst hke
      have hlt2 : ¬ ((n : Nat) : Int) < ((n : Nat) : Int) := by omega
      have HT := Lib.hid (show rs.take n = rs by rw [HN.out, List.take_length])
      go_wp2_with fail
      go_ret
      exact ⟨_, rfl, by have := HA.out.row; rw [HT.out] at this ⊢; exact own_mono1 this (Nat.le_succ _), HA.out.below⟩
end Go.Proofs.Ytakihbjfkpebcaa.Sx

namespace Go.Proofs.Ytakihbjfkpebcaa.Sx
open Go.RowKit
set_option maxRecDepth 100000
set_option linter.unusedSimpArgs false
set_option linter.unusedVariables false

def namesR (rs l : List Rul) : List Nam := rs.map (·.1) ++ l.flatMap fun r => refs r.2
theorem namesR_snoc (rs l : List Rul) (r : Rul) : namesR rs (l ++ [r]) = namesR rs l ++ refs r.2 := by simp [namesR]
theorem namesR_len (rs : List Rul) (K : Nat) : ∀ l : List Rul, (∀ r ∈ l, (refs r.2).length ≤ K) → (namesR rs l).length ≤ rs.length + l.length * K
  | [], _ => by simp [namesR]
  | r :: l, h => by
    have h1 := namesR_len rs K l (fun q hq => h q (by simp [hq]))
    have h2 := h r (by simp)
    unfold namesR at h1 ⊢
    rw [List.length_append] at h1 ⊢
    rw [List.flatMap_cons, List.length_append, List.length_cons, Nat.succ_mul]
    omega

set_option maxHeartbeats 8000000 in
theorem namesq_any (G : Gram) (hn64 : G.rules.length ≤ 1024) (K : Nat) (hK : K ≤ 1048576) (hsm : ∀ r ∈ G.rules, SmW r.2 ∧ (refs r.2).length ≤ K) (P : Nat → Prop) (W : World) (y : Value) (h : RlsAt P W G.rules y) :
    Calls Try.prog 11 #[.agg #[.string (Lx.mk G.start), y]] W fun e w' => ∃ v', e = .returned v' ∧ w'.ownsRow W.heap.size 9 1 v' (onceP (namesR G.rules G.rules)).length ((onceP (namesR G.rules G.rules)).map strV) ∧ Below W.heap.size W w' := by
  obtain ⟨i0, hi0, hz0, hz1, hz2⟩ := info_parts strinfo
  have hq := h.keep (Q := fun r => r < W.heap.size) (Nat.le_refl _) (fun r _ hr => ⟨hr, fun _ => rfl⟩)
  obtain ⟨A, cap, b, a0, a1, a2, rfl, hcap, h3, h4⟩ := hq
  obtain ⟨rs, hrs⟩ : ∃ rs, rs = G.rules := ⟨_, rfl⟩
  rw [← hrs] at hn64 hsm h3 h4 hcap ⊢
  obtain ⟨n, hn⟩ : ∃ n, n = rs.length := ⟨_, rfl⟩
  rw [← hn] at h3 hn64 hcap ⊢
  obtain ⟨ss, hss⟩ : ∃ ss, ss = Lx.mk G.start := ⟨_, rfl⟩
  rw [← hss]
  have HBB := Lib.hid ((Below.refl W.heap.size W).alloc (Nat.le_refl _) (.cells #[.string ss, .slice A n cap] 30))
  have HBX := Lib.hid (heap_alloc_new W (.cells #[.string ss, .slice A n cap] 30))
  have HN := Lib.hid hn
  have HSM := Lib.hid hsm
  have H3 := Lib.hid h3
  have H4 := Lib.hid h4
  clear hn hrs hsm h3 h4 h hss
  go_enter Try.func11, Try.ntmps11
  go_wp2_with fail
  generalize hV : World.alloc W _ = V
  rw [hV] at HBB HBX
  clear hV
  have HA0 := Lib.hid (show NmQ W #[.string ss, .slice A n cap] (.slice none 0 0) [] V from ⟨HBX.out, World.ownsRow_nil _ _ _ _, HBB.out⟩)
  clear HBX HBB
  go_loopw [3, 4] (fun nv i wr => ∃ j : Nat, j ≤ n ∧ i = .int .i64 j ∧ NmQ W #[.string ss, .slice A n cap] nv (onceP ((rs.take j).map (·.1))) wr) (fun _ i _ => n - (intOf i).toNat)
  case atStart => exact ⟨0, Nat.zero_le _, rfl, HA0.out⟩
  case round =>
    obtain ⟨k, hk, rfl, hA⟩ := hrel
    obtain ⟨Aq, cq, hpv⟩ := Gn.slice_of hA.row
    subst hpv
    have HA := Lib.hid hA
    have z1 := cell_of_row _ _ 1 _ _ (0, 0) hA.box
    have hol := onceP_le ((rs.take k).map (·.1))
    have htl : ((rs.take k).map (·.1)).length ≤ 1024 := by rw [List.length_map, List.length_take]; omega
    clear hA HA0
    by_cases hlt : k < n
    · have hlt2 : (k : Int) < (n : Int) := by omega
      have hkl : k < rs.length := by rw [← HN.out]; exact hlt
      obtain ⟨rfl, hbl, _⟩ := H3.out (by omega)
      obtain ⟨⟨q0, q1, q2, q3⟩, hnd⟩ := H4.out k hkl
      have HTU := Lib.hid (show onceP ((rs.take (k + 1)).map (·.1)) = if rs[k].1 ∈ onceP ((rs.take k).map (·.1)) then onceP ((rs.take k).map (·.1)) else onceP ((rs.take k).map (·.1)) ++ [rs[k].1] by rw [List.take_succ_eq_append_getElem hkl, List.map_append, List.map_singleton, onceP_snoc])
      obtain ⟨x, hx⟩ : ∃ x, x = rs[k].1 := ⟨_, rfl⟩
      rw [← hx] at q0 HTU
      have y0 := (HA.out.below.cell (p := ⟨b, k * 4, none⟩) hbl).trans q0
      obtain ⟨T, hT⟩ : ∃ T, T = onceP ((rs.take k).map (·.1)) := ⟨_, rfl⟩
      rw [← hT] at HA HTU hol ⊢
      have HKI := Lib.hid (in_any T (by omega) x wr _ (NmsAt.of_own rfl HA.out.row))
      obtain ⟨xm, hxm⟩ : ∃ xm, xm = Lx.mk x := ⟨_, rfl⟩
      rw [← hxm] at y0 HKI
      have HXM := Lib.hid hxm
      obtain ⟨L, hL⟩ : ∃ L, L = T.length := ⟨_, rfl⟩
      rw [← hL] at hol HKI ⊢
      have HLL := Lib.hid hL
      have HROW := Lib.hid (show (wr.alloc (.cells #[.string xm] 9)).ownsRow (W.heap.size + 1) 9 1 (.slice Aq L cq) L (T.map strV) by rw [hL]; exact HA.out.row.alloc _)
      have HAL := Lib.hid (show NmQ W #[.string ss, .slice (some ⟨b, 0, none⟩) n cap] (.slice Aq L cq) T (wr.alloc (.cells #[.string xm] 9)) by rw [hL]; exact HA.out.under ((Below.refl _ _).alloc (Nat.le_refl _) _))
      have HNEW := Lib.hid (Gn.row_new wr [.string xm] 9 wr.heap.size rfl)
      have hLb : L ≤ 1100000000 := by omega
      clear hx hxm hL hT htl q0 q1 q2 q3 hnd
      by_cases hin : x ∈ T
      · rw [if_pos hin] at HTU
        rw [decide_eq_true hin] at HKI
        have HA2 := Lib.hid (show NmQ W #[.string ss, .slice (some ⟨b, 0, none⟩) n cap] (.slice Aq L cq) T wr by rw [HLL.out]; exact HA.out)
        clear hin
        go_wp2_with fail
        refine HKI.out.mono ?_
        rintro e w6 ⟨rfl, rfl⟩
        go_wp2_with fail
        go_roundw
        case rel => exact ⟨k + 1, by omega, by simp, by rw [HTU.out]; exact HA2.out⟩
        case measure => simp [intOf]; omega
      · rw [if_neg hin] at HTU
        rw [decide_eq_false hin] at HKI
        clear hin
        go_wp2_with fail
        refine HKI.out.mono ?_
        rintro e w6 ⟨rfl, rfl⟩
        go_wp2_with (at_builtin; refine wpList_append_lies _ rfl _ _ 34 rfl (W.heap.size + 1) 9 i0 _ 1 16 Try.underlying34 hi0 hz0 hz1 hz2 rfl (by decide) (.slice Aq L cq) L _ rfl HROW.out ⟨w6.heap.size, 0, none⟩ 1 1 [.string xm] rfl rfl HNEW.out (by simp [Value.oneCell']) (by decide) (by unfold maxLen; omega) (by omega) (by have := Gn.heap_lt HAL.out.box; simp at this ⊢; omega) _ rfl ?_; intro gq cap' w4 hown4 hgrow4 hat4 hlt4; have H4x := Lib.hid (HAL.out.snoc x (v' := .slice (some ⟨gq, 0, none⟩) (L + 1) cap') (by rw [← HLL.out]; have h7 := hown4; rw [HXM.out] at h7; exact h7) hgrow4); have HG4 := Lib.hid hgrow4; have HT4 := Lib.hid hat4; clear hown4 hgrow4 hat4 hlt4)
        go_roundw
        case rel => exact ⟨k + 1, by omega, by simp, by rw [HTU.out]; exact H4x.out⟩
        case measure => simp [intOf]; omega
    · have hke : n = k := by omega
      subst hke
      have hlt2 : ¬ ((n : Nat) : Int) < ((n : Nat) : Int) := by omega
      have HA0 := Lib.hid (show NmQ W #[.string ss, .slice A n cap] (.slice Aq (onceP ((rs.take n).map (·.1))).length cq) (onceP (namesR rs (rs.take 0))) wr by
        have := HA.out
        rw [show namesR rs (rs.take 0) = (rs.take n).map (·.1) by rw [show rs.take n = rs by rw [HN.out, List.take_length]]; simp [namesR]]
        exact this)
      clear HA hol htl
      go_wp2_with fail
      go_loopw [3, 5] (fun nv i wr => ∃ j : Nat, j ≤ n ∧ i = .int .i64 j ∧ NmQ W #[.string ss, .slice A n cap] nv (onceP (namesR rs (rs.take j))) wr) (fun _ i _ => n - (intOf i).toNat)
      case atStart => exact ⟨0, Nat.zero_le _, rfl, by have := HA0.out; simp only [List.map_take] at this; exact this⟩
      case round =>
        obtain ⟨k, hk, rfl, hA⟩ := hrel
        obtain ⟨Av, cv, hpv⟩ := Gn.slice_of hA.row
        subst hpv
        have HA := Lib.hid hA
        have z1 := cell_of_row _ _ 1 _ _ (0, 0) hA.box
        have hll : (namesR rs (rs.take k)).length ≤ 1073742848 := by
          have h6 := namesR_len rs K (rs.take k) (fun r hr => (HSM.out r (List.mem_of_mem_take hr)).2)
          have h7 : (rs.take k).length ≤ 1024 := by rw [List.length_take]; omega
          have h8 := Nat.mul_le_mul h7 hK
          have := HN.out
          omega
        clear hA
        by_cases hlt : k < n
        · have hlt2 : (k : Int) < (n : Int) := by omega
          have hkl : k < rs.length := by rw [← HN.out]; exact hlt
          obtain ⟨rfl, hbl, _⟩ := H3.out (by omega)
          obtain ⟨⟨q0, q1, q2, q3⟩, hnd⟩ := H4.out k hkl
          obtain ⟨kk, ta, AA, qq, cc, f1, f2, f3⟩ := hnd.form
          rw [f1] at q1
          rw [f2] at q2
          rw [f3] at q3
          rw [f1, f2, f3] at hnd
          obtain ⟨s2, s3⟩ := HSM.out _ (List.getElem_mem hkl)
          have HTK := Lib.hid (show namesR rs (rs.take (k + 1)) = namesR rs (rs.take k) ++ refs rs[k].2 by rw [List.take_succ_eq_append_getElem hkl, namesR_snoc])
          have y1 := (HA.out.below.cell (p := ⟨b, k * 4 + 1, none⟩) hbl).trans q1
          have y2 := (HA.out.below.cell (p := ⟨b, k * 4 + 2, none⟩) hbl).trans q2
          have y3 := (HA.out.below.cell (p := ⟨b, k * 4 + 3, none⟩) hbl).trans q3
          have HRF := Lib.hid (refq_any s2 (fun q => q < W.heap.size) wr _ _ _ (hnd.keep HA.out.below.size (fun q hq _ => ⟨hq, fun i => HA.out.below.cell (p := ⟨q, i, none⟩) hq⟩)) (fun q hq => Nat.lt_of_lt_of_le hq HA.out.below.size) (by omega))
          obtain ⟨bd, hbd⟩ : ∃ bd, bd = refs rs[k].2 := ⟨_, rfl⟩
          rw [← hbd] at HRF HTK s3
          obtain ⟨X, hX⟩ : ∃ X, X = namesR rs (rs.take k) := ⟨_, rfl⟩
          rw [← hX] at HA HTK hll ⊢
          clear q0 q1 q2 q3 hnd f1 f2 f3 s2 hbd hX
          go_wp2_with fail
          refine HRF.out.mono ?_
          rintro e w5 ⟨v5, rfl, ho5, b5⟩
          have HA5 := Lib.hid (HA.out.under b5)
          have hown5 := Gn.own_lt HA.out.row
          have hms := NmsAt.of_own rfl ho5
          have hob5 := Gn.own_block ho5
          obtain ⟨A5, c5, b6, rfl, m3, m4⟩ := hms
          obtain ⟨nl, hnl⟩ : ∃ nl, nl = bd.length := ⟨_, rfl⟩
          rw [← hnl] at m3 s3 ⊢
          have HNL := Lib.hid hnl
          have HM3 := Lib.hid m3
          have HM4 := Lib.hid m4
          have HSEP := Lib.hid (show ∀ g, (Value.slice Av (onceP X).length cv).ownBlock = some g → 0 < nl → g ≠ b6 from fun g hg h0 e => by
            have h1 := hown5 g hg
            have h2 := hob5 b6 (by rw [(m3 h0).1]; rfl)
            omega)
          clear hnl m3 m4 ho5 b5 hob5 hown5 HRF y1 y2 y3 z1
          go_wp2_with fail
          go_loopw [3, 7] (fun nv i wx => ∃ j : Nat, j ≤ nl ∧ i = .int .i64 j ∧ NmQ W #[.string ss, .slice (some ⟨b, 0, none⟩) n cap] nv (onceP (X ++ bd.take j)) wx ∧ (∀ i (h : i < bd.length), wx.cell? ⟨b6, i, none⟩ = some (strV bd[i])) ∧ (∀ g, nv.ownBlock = some g → 0 < nl → g ≠ b6) ∧ (0 < nl → b6 < wx.heap.size)) (fun _ i _ => nl - (intOf i).toNat)
          case atStart => exact ⟨0, Nat.zero_le _, rfl, by rw [List.take_zero, List.append_nil]; exact HA5.out, HM4.out, HSEP.out, fun h0 => (HM3.out h0).2⟩
          case round =>
            obtain ⟨j, hj, rfl, hA, hcl, hsep, hbl6⟩ := hrel
            obtain ⟨Aq, cq, hpv⟩ := Gn.slice_of hA.row
            subst hpv
            have HCL := Lib.hid hcl
            have HSP := Lib.hid hsep
            have HBL := Lib.hid hbl6
            have HA := Lib.hid hA
            have htl : (bd.take j).length ≤ nl := by rw [List.length_take]; omega
            have hol := onceP_le (X ++ bd.take j)
            rw [List.length_append] at hol
            clear hA hcl hsep hbl6
            by_cases hjn : j < nl
            · have hjn2 : (j : Int) < (nl : Int) := by omega
              have hjl : j < bd.length := by rw [← HNL.out]; exact hjn
              obtain ⟨rfl, _⟩ := HM3.out (by omega)
              have yx := HCL.out j hjl
              have HTU := Lib.hid (show onceP (X ++ bd.take (j + 1)) = if bd[j] ∈ onceP (X ++ bd.take j) then onceP (X ++ bd.take j) else onceP (X ++ bd.take j) ++ [bd[j]] by rw [List.take_succ_eq_append_getElem hjl, ← List.append_assoc, onceP_snoc])
              obtain ⟨x, hx⟩ : ∃ x, x = bd[j] := ⟨_, rfl⟩
              rw [← hx] at yx HTU
              obtain ⟨T, hT⟩ : ∃ T, T = onceP (X ++ bd.take j) := ⟨_, rfl⟩
              rw [← hT] at HA HTU HSP hol ⊢
              have HKI := Lib.hid (in_any T (by omega) x wr _ (NmsAt.of_own rfl HA.out.row))
              obtain ⟨xm, hxm⟩ : ∃ xm, xm = Lx.mk x := ⟨_, rfl⟩
              unfold strV at yx
              rw [← hxm] at yx HKI
              have HXM := Lib.hid hxm
              obtain ⟨L, hL⟩ : ∃ L, L = T.length := ⟨_, rfl⟩
              rw [← hL] at hol HKI HSP ⊢
              have HLL := Lib.hid hL
              have HROW := Lib.hid (show (wr.alloc (.cells #[.string xm] 9)).ownsRow (W.heap.size + 1) 9 1 (.slice Aq L cq) L (T.map strV) by rw [hL]; exact HA.out.row.alloc _)
              have HAL := Lib.hid (show NmQ W #[.string ss, .slice (some ⟨b, 0, none⟩) n cap] (.slice Aq L cq) T (wr.alloc (.cells #[.string xm] 9)) by rw [hL]; exact HA.out.under ((Below.refl _ _).alloc (Nat.le_refl _) _))
              have HNEW := Lib.hid (Gn.row_new wr [.string xm] 9 wr.heap.size rfl)
              have hLb : L ≤ 1100000000 := by omega
              clear hx hxm hL hT htl
              by_cases hin : x ∈ T
              · rw [if_pos hin] at HTU
                rw [decide_eq_true hin] at HKI
                have HA2 := Lib.hid (show NmQ W #[.string ss, .slice (some ⟨b, 0, none⟩) n cap] (.slice Aq L cq) T wr by rw [HLL.out]; exact HA.out)
                clear hin
                go_wp2_with fail
                refine HKI.out.mono ?_
                rintro e w6 ⟨rfl, rfl⟩
                go_wp2_with fail
                go_roundw
                case rel => exact ⟨j + 1, by omega, by simp, by rw [HTU.out]; exact HA2.out, HCL.out, HSP.out, HBL.out⟩
                case measure => simp [intOf]; omega
              · rw [if_neg hin] at HTU
                rw [decide_eq_false hin] at HKI
                clear hin
                go_wp2_with fail
                refine HKI.out.mono ?_
                rintro e w6 ⟨rfl, rfl⟩
                go_wp2_with (at_builtin; refine wpList_append_lies _ rfl _ _ 34 rfl (W.heap.size + 1) 9 i0 _ 1 16 Try.underlying34 hi0 hz0 hz1 hz2 rfl (by decide) (.slice Aq L cq) L _ rfl HROW.out ⟨w6.heap.size, 0, none⟩ 1 1 [.string xm] rfl rfl HNEW.out (by simp [Value.oneCell']) (by decide) (by unfold maxLen; omega) (by omega) (by have := Gn.heap_lt HAL.out.box; simp at this ⊢; omega) _ rfl ?_; intro gq cap' w4 hown4 hgrow4 hat4 hlt4; have H4x := Lib.hid (HAL.out.snoc x (v' := .slice (some ⟨gq, 0, none⟩) (L + 1) cap') (by rw [← HLL.out]; have h7 := hown4; rw [HXM.out] at h7; exact h7) hgrow4); have HG4 := Lib.hid hgrow4; have HT4 := Lib.hid hat4; clear hown4 hgrow4 hat4 hlt4)
                have hcl4 : ∀ i (h : i < bd.length), w4.cell? ⟨b6, i, none⟩ = some (strV bd[i]) := fun i hi => by
                  have h0 : 0 < nl := by omega
                  have h8 := HBL.out h0
                  exact (Gn.cell_same ((HG4.out.block b6 (by simp; omega) (fun e => HSP.out b6 e.symm h0 rfl)).trans (heap_alloc_old _ _ h8)) i).trans (HCL.out i hi)
                have hsep4 : ∀ g, (Value.slice (some ⟨gq, 0, none⟩) (L + 1) cap').ownBlock = some g → 0 < nl → g ≠ b6 := fun g hg h0 e => by
                  have hg : gq = g := by injection hg
                  subst hg
                  rcases HT4.out with h7 | h7
                  · exact HSP.out gq h7 h0 e
                  · have := HBL.out h0
                    simp at h7
                    omega
                have hbl4 : 0 < nl → b6 < w4.heap.size := fun h0 => by have h8 := HG4.out.size; have := HBL.out h0; simp at h8; omega
                have HC4 := Lib.hid hcl4
                have HS4 := Lib.hid hsep4
                have HL4 := Lib.hid hbl4
                clear hcl4 hsep4 hbl4
                go_roundw
                case rel => exact ⟨j + 1, by omega, by simp, by rw [HTU.out]; exact H4x.out, HC4.out, HS4.out, HL4.out⟩
                case measure => simp [intOf]; omega
            · have hje : nl = j := by omega
              subst hje
              have hjn2 : ¬ ((nl : Nat) : Int) < ((nl : Nat) : Int) := by omega
              have HFIN := Lib.hid (show namesR rs (rs.take (k + 1)) = X ++ bd.take nl by rw [HTK.out, HNL.out, List.take_length])
              go_wp2_with fail
              go_roundw
              case rel => exact ⟨k + 1, by omega, by simp, by rw [HFIN.out]; exact HA.out⟩
              case measure => simp [intOf]; omega
        · have hke : n = k := by omega
          subst hke
          have hlt2 : ¬ ((n : Nat) : Int) < ((n : Nat) : Int) := by omega
          have HT := Lib.hid (show rs.take n = rs by rw [HN.out, List.take_length])
          go_wp2_with fail
          go_ret
          exact ⟨_, rfl, by have := HA.out.row; rw [HT.out] at this ⊢; exact own_mono1 this (Nat.le_succ _), HA.out.below⟩
end Go.Proofs.Ytakihbjfkpebcaa.Sx

namespace Go.Proofs.Ytakihbjfkpebcaa.Sx
open Go.RowKit
set_option maxRecDepth 100000
set_option linter.unusedSimpArgs false
set_option linter.unusedVariables false

def usN (l : List Nam) (s : Nam) : Nat := (l.filter fun a => decide (a = s)).length
theorem usN_snoc (l : List Nam) (a s : Nam) : usN (l ++ [a]) s = if a = s then usN l s + 1 else usN l s := by
  unfold usN
  rw [List.filter_append, List.length_append]
  by_cases h : a = s
  · rw [if_pos h]; simp [h]
  · rw [if_neg h]; simp [h]
theorem usN_le (l : List Nam) (s : Nam) : usN l s ≤ l.length := List.length_filter_le _ _
def refsR (l : List Rul) : List Nam := l.flatMap fun r => refs r.2
theorem refsR_snoc (l : List Rul) (r : Rul) : refsR (l ++ [r]) = refsR l ++ refs r.2 := by simp [refsR]
theorem refsR_len (K : Nat) : ∀ l : List Rul, (∀ r ∈ l, (refs r.2).length ≤ K) → (refsR l).length ≤ l.length * K
  | [], _ => by simp [refsR]
  | r :: l, h => by
    have h1 := refsR_len K l (fun q hq => h q (by simp [hq]))
    have h2 := h r (by simp)
    rw [show refsR (r :: l) = refs r.2 ++ refsR l from rfl, List.length_append, List.length_cons, Nat.succ_mul]
    omega

set_option maxHeartbeats 8000000 in
theorem uses_any (G : Gram) (s : Nam) (hn64 : G.rules.length ≤ 1024) (K : Nat) (hK : K ≤ 1048576) (hsm : ∀ r ∈ G.rules, SmW r.2 ∧ (refs r.2).length ≤ K) (P : Nat → Prop) (W : World) (y : Value) (h : RlsAt P W G.rules y) :
    Calls Try.prog 16 #[.agg #[.string (Lx.mk G.start), y], .string (Lx.mk s)] W fun e w' => e = .returned (.int .i64 (usN (refsR G.rules) s)) ∧ Below W.heap.size W w' := by
  have hq := h.keep (Q := fun r => r < W.heap.size) (Nat.le_refl _) (fun r _ hr => ⟨hr, fun _ => rfl⟩)
  obtain ⟨A, cap, b, a0, a1, a2, rfl, hcap, h3, h4⟩ := hq
  obtain ⟨rs, hrs⟩ : ∃ rs, rs = G.rules := ⟨_, rfl⟩
  rw [← hrs] at hn64 hsm h3 h4 hcap ⊢
  obtain ⟨n, hn⟩ : ∃ n, n = rs.length := ⟨_, rfl⟩
  rw [← hn] at h3 hn64 hcap ⊢
  have HTE := Lib.hid (fun x => textEq x s)
  obtain ⟨ss, hss⟩ : ∃ ss, ss = Lx.mk G.start := ⟨_, rfl⟩
  obtain ⟨sm, hsm1⟩ : ∃ sm, sm = Lx.mk s := ⟨_, rfl⟩
  rw [← hsm1] at HTE
  rw [← hss, ← hsm1]
  have HBB := Lib.hid ((Below.refl W.heap.size W).alloc (Nat.le_refl _) (.cells #[.string ss, .slice A n cap] 30))
  have HBX := Lib.hid (heap_alloc_new W (.cells #[.string ss, .slice A n cap] 30))
  have HN := Lib.hid hn
  have HSM := Lib.hid hsm
  have H3 := Lib.hid h3
  have H4 := Lib.hid h4
  clear hn hrs hsm h3 h4 h hss hsm1
  go_enter Try.func16, Try.ntmps16
  go_wp2_with fail
  generalize hV : World.alloc W _ = V
  rw [hV] at HBB HBX
  clear hV
  go_loopw [5, 6] (fun nv i wr => ∃ j : Nat, j ≤ n ∧ i = .int .i64 j ∧ nv = .int .i64 (usN (refsR (rs.take j)) s) ∧ wr.heap[W.heap.size]? = some (.cells #[.string ss, .slice A n cap] 30 (0, 0)) ∧ Below W.heap.size W wr) (fun _ i _ => n - (intOf i).toNat)
  case atStart => exact ⟨0, Nat.zero_le _, rfl, rfl, HBX.out, HBB.out⟩
  case round =>
    obtain ⟨k, hk, rfl, rfl, hbx, hb⟩ := hrel
    have HB := Lib.hid hb
    have HX := Lib.hid hbx
    have z1 := cell_of_row _ _ 1 _ _ (0, 0) hbx
    have hll : (refsR (rs.take k)).length ≤ 1073741824 := by
      have h6 := refsR_len K (rs.take k) (fun r hr => (HSM.out r (List.mem_of_mem_take hr)).2)
      have h7 : (rs.take k).length ≤ 1024 := by rw [List.length_take]; omega
      have h8 := Nat.mul_le_mul h7 hK
      omega
    clear hb hbx HBX HBB
    by_cases hlt : k < n
    · have hlt2 : (k : Int) < (n : Int) := by omega
      have hkl : k < rs.length := by rw [← HN.out]; exact hlt
      obtain ⟨rfl, hbl, _⟩ := H3.out (by omega)
      obtain ⟨⟨q0, q1, q2, q3⟩, hnd⟩ := H4.out k hkl
      obtain ⟨kk, ta, AA, qq, cc, f1, f2, f3⟩ := hnd.form
      rw [f1] at q1
      rw [f2] at q2
      rw [f3] at q3
      rw [f1, f2, f3] at hnd
      obtain ⟨s2, s3⟩ := HSM.out _ (List.getElem_mem hkl)
      have HTK := Lib.hid (show refsR (rs.take (k + 1)) = refsR (rs.take k) ++ refs rs[k].2 by rw [List.take_succ_eq_append_getElem hkl, refsR_snoc])
      have y1 := (HB.out.cell (p := ⟨b, k * 4 + 1, none⟩) hbl).trans q1
      have y2 := (HB.out.cell (p := ⟨b, k * 4 + 2, none⟩) hbl).trans q2
      have y3 := (HB.out.cell (p := ⟨b, k * 4 + 3, none⟩) hbl).trans q3
      have HRF := Lib.hid (refq_any s2 (fun q => q < W.heap.size) wr _ _ _ (hnd.keep HB.out.size (fun q hq _ => ⟨hq, fun i => HB.out.cell (p := ⟨q, i, none⟩) hq⟩)) (fun q hq => Nat.lt_of_lt_of_le hq HB.out.size) (by omega))
      obtain ⟨bd, hbd⟩ : ∃ bd, bd = refs rs[k].2 := ⟨_, rfl⟩
      rw [← hbd] at HRF HTK s3
      obtain ⟨X, hX⟩ : ∃ X, X = refsR (rs.take k) := ⟨_, rfl⟩
      rw [← hX] at HTK hll ⊢
      clear q0 q1 q2 q3 hnd f1 f2 f3 s2 hbd hX
      go_wp2_with fail
      refine HRF.out.mono ?_
      rintro e w5 ⟨v5, rfl, ho5, b5⟩
      have HB5 := Lib.hid (HB.out.trans (b5.mono HB.out.size))
      have HX5 := Lib.hid ((b5.block _ (Gn.heap_lt HX.out)).trans HX.out)
      obtain ⟨A5, c5, b6, rfl, m3, m4⟩ := NmsAt.of_own rfl ho5
      obtain ⟨nl, hnl⟩ : ∃ nl, nl = bd.length := ⟨_, rfl⟩
      rw [← hnl] at m3 s3 ⊢
      have HNL := Lib.hid hnl
      have HM3 := Lib.hid m3
      have HM4 := Lib.hid m4
      clear hnl m3 m4 ho5 b5 HRF y1 y2 y3 z1
      go_wp2_with fail
      go_loopw [5, 8] (fun nv i wx => ∃ j : Nat, j ≤ nl ∧ i = .int .i64 j ∧ nv = .int .i64 (usN (X ++ bd.take j) s) ∧ wx = w5) (fun _ i _ => nl - (intOf i).toNat)
      case atStart => exact ⟨0, Nat.zero_le _, rfl, by rw [List.take_zero, List.append_nil], rfl⟩
      case round =>
        obtain ⟨j, hj, rfl, rfl, rfl⟩ := hrel
        have hu := usN_le (X ++ bd.take j) s
        have htl : (bd.take j).length ≤ nl := by rw [List.length_take]; omega
        rw [List.length_append] at hu
        by_cases hjn : j < nl
        · have hjn2 : (j : Int) < (nl : Int) := by omega
          have hjl : j < bd.length := by rw [← HNL.out]; exact hjn
          obtain ⟨rfl, _⟩ := HM3.out (by omega)
          have yx := HM4.out j hjl
          have HTU := Lib.hid (show usN (X ++ bd.take (j + 1)) s = if bd[j] = s then usN (X ++ bd.take j) s + 1 else usN (X ++ bd.take j) s by rw [List.take_succ_eq_append_getElem hjl, ← List.append_assoc, usN_snoc])
          have hT := HTE.out bd[j]
          obtain ⟨x, hx⟩ : ∃ x, x = bd[j] := ⟨_, rfl⟩
          rw [← hx] at yx HTU hT
          obtain ⟨u, hu1⟩ : ∃ u, u = usN (X ++ bd.take j) s := ⟨_, rfl⟩
          rw [← hu1] at HTU hu ⊢
          obtain ⟨xm, hxm⟩ : ∃ xm, xm = Lx.mk x := ⟨_, rfl⟩
          unfold strV at yx
          rw [← hxm] at yx hT
          have hub : u ≤ 1100000000 := by omega
          by_cases hxs : x = s
          · have e1 : (xm.toList == sm.toList) = true := by rw [hT, decide_eq_true hxs]
            rw [if_pos hxs] at HTU
            clear hx hu1 hxm hT hxs hu htl
            go_wp2
            go_roundw
            case rel => exact ⟨j + 1, by omega, by simp, by rw [HTU.out]; simp, by trivial⟩
            case measure => simp [intOf]; omega
          · have e1 : (xm.toList == sm.toList) = false := by rw [hT, decide_eq_false hxs]
            rw [if_neg hxs] at HTU
            clear hx hu1 hxm hT hxs hu htl
            go_wp2
            go_roundw
            case rel => exact ⟨j + 1, by omega, by simp, by rw [HTU.out], by trivial⟩
            case measure => simp [intOf]; omega
        · have hje : nl = j := by omega
          subst hje
          have hjn2 : ¬ ((nl : Nat) : Int) < ((nl : Nat) : Int) := by omega
          have HFIN := Lib.hid (show refsR (rs.take (k + 1)) = X ++ bd.take nl by rw [HTK.out, HNL.out, List.take_length])
          go_wp2_with fail
          go_roundw
          case rel => exact ⟨k + 1, by omega, by simp, by rw [HFIN.out], HX5.out, HB5.out⟩
          case measure => simp [intOf]; omega
    · have hke : n = k := by omega
      subst hke
      have hlt2 : ¬ ((n : Nat) : Int) < ((n : Nat) : Int) := by omega
      have HT := Lib.hid (show rs.take n = rs by rw [HN.out, List.take_length])
      go_wp2_with fail
      go_ret
      exact ⟨by show Ending.returned (.int .i64 ((usN (refsR (rs.take n)) s : Nat) : Int)) = _; rw [HT.out], HB.out⟩

set_option maxHeartbeats 4000000 in
theorem texts_any (l : List Nam) (hn : l.length ≤ 1099511627776) (W : World) (v u : Value) (h : NmsAt W l v) (h' : NmsAt W l u) :
    Calls Try.prog 12 #[v, u] W fun e w' => e = .returned (.bool true) ∧ Below W.heap.size W w' := by
  obtain ⟨A, cap, b, rfl, h3, h4⟩ := h
  obtain ⟨A', cap', b', rfl, h3', h4'⟩ := h'
  obtain ⟨n, hn1⟩ : ∃ n, n = l.length := ⟨_, rfl⟩
  rw [← hn1] at h3 h3' hn ⊢
  have HN := Lib.hid hn1
  have H3 := Lib.hid h3
  have H4 := Lib.hid h4
  have H3' := Lib.hid h3'
  have H4' := Lib.hid h4'
  have en : ((n : Int) != (n : Int)) = false := by rw [bne_self_eq_false]
  clear hn1 h3 h4 h3' h4'
  go_enter Try.func12, Try.ntmps12
  go_wp2_with fail
  go_loopw [5] (fun i wr => ∃ j : Nat, j ≤ n ∧ i = .int .i64 j ∧ Below W.heap.size W wr) (fun i _ => n - (intOf i).toNat)
  case atStart => exact ⟨0, Nat.zero_le _, rfl, Below.refl _ _⟩
  case round =>
    obtain ⟨j, hj, rfl, hb⟩ := hrel
    have HB := Lib.hid hb
    by_cases hjn : j < n
    · have hjn2 : (j : Int) < (n : Int) := by omega
      have hjl : j < l.length := by rw [← HN.out]; exact hjn
      obtain ⟨rfl, hbl⟩ := H3.out (by omega)
      obtain ⟨rfl, hbl'⟩ := H3'.out (by omega)
      have y := (hb.cell (p := ⟨b, j, none⟩) hbl).trans (H4.out j hjl)
      have z := (hb.cell (p := ⟨b', j, none⟩) hbl').trans (H4'.out j hjl)
      obtain ⟨xm, hxm⟩ : ∃ xm, xm = Lx.mk l[j] := ⟨_, rfl⟩
      unfold strV at y z
      rw [← hxm] at y z
      clear hxm hb
      go_wp2_with fail
      go_quiet (fail)
      go_wp2
      go_roundw
      case rel => exact ⟨j + 1, by omega, by simp, Gn.below_drewN HB.out _⟩
      case measure => simp [intOf]; omega
    · have hjn2 : ¬ (j : Int) < (n : Int) := by omega
      clear hb
      go_wp2
      go_ret
      exact ⟨rfl, HB.out⟩
end Go.Proofs.Ytakihbjfkpebcaa.Sx

namespace Go.Proofs.Ytakihbjfkpebcaa.Sx
set_option maxRecDepth 100000
set_option linter.unusedSimpArgs false
set_option linter.unusedVariables false

/-- The table of these names, of which these were used. -/
def tabF (rs : List Rul) (U L : List Nam) : List Sy := L.map fun s => (s, firstP rs s, usN U s)
theorem nmS_tabF (rs : List Rul) (U L : List Nam) : nmS (tabF rs U L) = L := by
  unfold nmS tabF
  rw [List.map_map]
  exact List.map_id' _
theorem usN_no {U : List Nam} {s : Nam} (h : s ∉ U) : usN U s = 0 := by
  unfold usN
  rw [List.length_eq_zero_iff, List.filter_eq_nil_iff]
  intro a ha e
  have e := of_decide_eq_true e
  subst e
  exact h ha
theorem add_tabF (rs : List Rul) (U L : List Nam) (s : Nam) (hU : ∀ u ∈ U, u ∈ L) : addP rs (tabF rs U L) s = tabF rs U (if s ∈ L then L else L ++ [s]) := by
  unfold addP
  rw [nmS_tabF]
  by_cases h : s ∈ L
  · rw [if_pos h, if_pos h]
  · rw [if_neg h, if_neg h]
    unfold tabF
    rw [List.map_append, List.map_singleton, usN_no (fun hs => h (hU s hs))]
theorem inc_tabF (rs : List Rul) (U L : List Nam) (s : Nam) : incP (tabF rs U L) s = tabF rs (U ++ [s]) L := by
  unfold incP tabF
  rw [List.map_map]
  apply List.map_congr_left
  intro x _
  simp only [Function.comp]
  rw [usN_snoc]
  by_cases h : x = s
  · subst h; rw [if_pos rfl, if_pos rfl]
  · rw [if_neg h, if_neg (fun e => h e.symm)]
theorem tabA_F (rs : List Rul) : ∀ (l : List Rul) (X : List Nam), l.foldl (fun T r => addP rs T r.1) (tabF rs [] (onceP X)) = tabF rs [] (onceP (X ++ l.map (·.1)))
  | [], X => by simp
  | r :: l, X => by
    rw [List.foldl_cons, add_tabF rs [] _ _ (by simp), ← onceP_snoc, tabA_F rs l (X ++ [r.1])]
    simp
theorem tabU_F (rs : List Rul) : ∀ (l : List Nam) (U X : List Nam), (∀ u ∈ U, u ∈ X) → tabU rs (tabF rs U (onceP X)) l = tabF rs (U ++ l) (onceP (X ++ l))
  | [], U, X, _ => by simp [tabU]
  | s :: l, U, X, h => by
    rw [tabU, List.foldl_cons, useP, add_tabF rs U _ _ (fun u hu => onceP_iff.mpr (h u hu)), ← onceP_snoc, inc_tabF]
    have := tabU_F rs l (U ++ [s]) (X ++ [s]) (fun u hu => by
      rcases List.mem_append.mp hu with hu | hu
      · exact List.mem_append.mpr (.inl (h u hu))
      · exact List.mem_append.mpr (.inr hu))
    unfold tabU at this
    rw [this]
    simp
theorem tabR_F (rs : List Rul) : ∀ (l : List Rul) (U X : List Nam), (∀ u ∈ U, u ∈ X) → tabR rs (tabF rs U (onceP X)) l = tabF rs (U ++ refsR l) (onceP (X ++ refsR l))
  | [], U, X, _ => by simp [tabR, refsR]
  | r :: l, U, X, h => by
    rw [tabR, List.foldl_cons, tabU_F rs _ U X h]
    have := tabR_F rs l (U ++ refs r.2) (X ++ refs r.2) (fun u hu => by
      rcases List.mem_append.mp hu with hu | hu
      · exact List.mem_append.mpr (.inl (h u hu))
      · exact List.mem_append.mpr (.inr hu))
    unfold tabR at this
    rw [this]
    simp [refsR]
theorem table_is (rs : List Rul) : tableP rs = tabF rs (refsR rs) (onceP (namesR rs rs)) := by
  have h1 : tabA rs rs = tabF rs [] (onceP (rs.map (·.1))) := by
    have := tabA_F rs rs []
    simpa [tabA, tabF, onceP, onceGo] using this
  unfold tableP
  rw [h1, tabR_F rs rs [] _ (by simp)]
  rfl
end Go.Proofs.Ytakihbjfkpebcaa.Sx

namespace Go.Proofs.Ytakihbjfkpebcaa.Sx.Lit
open Lx (Tk)
set_option maxRecDepth 100000
variable {α : Type}

def rc (t : Tree) : Nat := (lits t).length
def rcL (l : List Tree) : Nat := (litsL l).length
theorem rcL_snoc (l : List Tree) (t : Tree) : rcL (l ++ [t]) = rcL l + rc t := by unfold rcL rc; rw [litsL_snoc, List.length_append]
theorem rc_node (k : Nat) (t : List UInt8) (l : List Tree) (hk : k ≠ 2) : rc (.node k t l) = rcL l := by unfold rc rcL; rw [lits, if_neg hk]
theorem rc_joined (k : Nat) (hk : k ≠ 2) (l : List Tree) : rc (joined k l) ≤ rcL l := by
  unfold joined
  split
  · rename_i t; unfold rcL rc; rw [litsL, litsL, List.append_nil]; exact Nat.le_refl _
  · rw [rc_node k _ _ hk]; exact Nat.le_refl _
theorem rc_around (k : Nat) (hk : k ≠ 2) (t : Tree) : rc (around k t) = rc t := by
  unfold around
  rw [rc_node k _ _ hk]
  unfold rcL rc
  rw [litsL, litsL, List.append_nil]
theorem rc_wrapped (c : UInt8) (t : Tree) : rc (wrapped c t) = rc t := by
  unfold wrapped
  split
  · exact rc_around 5 (by decide) t
  · split
    · exact rc_around 6 (by decide) t
    · rfl
/-- Of a value at j no more than a names more than tokens gone over from i. -/
def Cn (x : Option (Res Tree)) (i a : Nat) : Prop := ∀ v j, x = some (.ok v j) → rc v + i ≤ j + a
theorem cn_bind {x : Option (Res Tree)} {i a : Nat} {f : Tree → Nat → Option (Res Tree)} (hf : ∀ v j, x = some (.ok v j) → Cn (f v j) i a) : Cn (x.bind fun r => r.bind f) i a := by
  intro v j h
  rcases bind_some h with ⟨l, c, e, _, h2⟩ | ⟨v2, j2, h1, h2⟩
  · cases h2
  · exact hf v2 j2 h1 v j h2
theorem cn_res {x : Res α} {i a : Nat} {f : α → Nat → Option (Res Tree)} (hf : ∀ v j, x = .ok v j → Cn (f v j) i a) : Cn (x.bind f) i a := by
  intro v j h
  rcases res_some h with ⟨l, c, e, _, h2⟩ | ⟨v2, j2, h1, h2⟩
  · cases h2
  · exact hf v2 j2 h1 v j h2
theorem cn_ok {v : Tree} {i j a : Nat} (h : rc v + i ≤ j + a) : Cn (some (Res.ok v j)) i a := by
  intro u k e
  injection e with e
  injection e with e1 e2
  subst e1
  subst e2
  exact h
theorem cn_bad (ts : List Tk) (i i' code a : Nat) : Cn (some (Res.bad ts i' code)) i a := by
  intro u k e
  injection e with e
  unfold Res.bad at e
  cases e
theorem Cn.mono {x : Option (Res Tree)} {i a i' a' : Nat} (h : Cn x i a) (h2 : i' + a ≤ i + a') : Cn x i' a' := fun v j e => by have := h v j e; omega
theorem cn_all (ts : List Tk) : ∀ f : Nat,
    (∀ d i, Cn (pAlt ts f d i) i 0) ∧ (∀ d i acc, Cn (pMore ts f d i acc) i (rcL acc)) ∧ (∀ d i, Cn (pRow ts f d i) i 0) ∧
    (∀ d i acc, Cn (pItems ts f d i acc) i (rcL acc)) ∧ (∀ d i, Cn (pItem ts f d i) i 0) ∧ (∀ d i, Cn (pAtom ts f d i) i 0)
  | 0 => ⟨(fun d i v j h => by rw [pAlt] at h; cases h), (fun d i acc v j h => by rw [pMore] at h; cases h), (fun d i v j h => by rw [pRow] at h; cases h), (fun d i acc v j h => by rw [pItems] at h; cases h), (fun d i v j h => by rw [pItem] at h; cases h), (fun d i v j h => by rw [pAtom] at h; cases h)⟩
  | f + 1 => by
    obtain ⟨ih1, ih2, ih3, ih4, ih5, ih6⟩ := cn_all ts f
    refine ⟨fun d i => ?_, fun d i acc => ?_, fun d i => ?_, fun d i acc => ?_, fun d i => ?_, fun d i => ?_⟩
    · rw [pAlt]
      refine cn_bind fun t j hj => (ih2 d j [t]).mono ?_
      have h1 := ih3 d i t j hj
      have h2 : rcL [t] = rc t := by unfold rcL rc; rw [litsL, litsL, List.append_nil]
      omega
    · rw [pMore]
      split
      · refine cn_res fun u j hj => cn_bind fun t k hk => (ih2 d k _).mono ?_
        have h1 := ih3 d j t k hk
        have h2 := tak_at hj
        rw [rcL_snoc]
        omega
      · exact cn_ok (by have := rc_joined 4 (by decide) acc; omega)
    · rw [pRow]; exact ih4 d i []
    · rw [pItems]
      split
      · refine cn_bind fun t j hj => (ih4 d j _).mono ?_
        have h1 := ih5 d i t j hj
        rw [rcL_snoc]
        omega
      · exact cn_ok (by have := rc_joined 3 (by decide) acc; omega)
    · rw [pItem]
      refine cn_bind fun t j hj => ?_
      have h1 := ih6 d i t j hj
      have go : ∀ (t' : Tree), rc t' = rc t → Cn ((tak ts j).bind fun _ k => some (.ok t' k)) i 0 := fun t' e => cn_res fun u k hk => by
        have := tak_at hk
        exact cn_ok (by omega)
      split
      · exact go _ (rc_around 6 (by decide) t)
      · split
        · exact go _ (rc_around 7 (by decide) t)
        · split
          · exact go _ (rc_around 5 (by decide) t)
          · exact cn_ok (by omega)
    · rw [pAtom]
      split
      · refine cn_res fun u k hk => ?_
        have := tak_at hk
        refine cn_ok ?_
        rw [rc_node 1 _ _ (by decide)]
        simp [rcL, litsL]; omega
      · split
        · refine cn_res fun u k hk => ?_
          have := tak_at hk
          refine cn_ok ?_
          unfold rc
          rw [lits, if_pos rfl]
          simp; omega
        · split
          · intro v j h; cases h
          · rename_i c hc
            split
            · exact cn_bad _ _ _ _ _
            · refine cn_res fun u j hj => ?_
              have h1 := tak_at hj
              refine cn_bind fun t k hk => cn_res fun u2 o ho => ?_
              have h2 := need_at ho
              have h3 := ih1 (d + 1) j t k hk
              exact cn_ok (by rw [rc_wrapped]; omega)
theorem rule_cn (ts : List Tk) (f i : Nat) : All (fun v : List UInt8 × Tree => rc v.2 ≤ ts.length) (pRule ts f i) := by
  unfold pRule
  refine all_res fun n j hj => all_res fun u k hk => all_bind (S := fun _ => True) (fun _ _ _ => trivial) fun t m hm _ => all_res fun u2 o ho => all_ok ?_
  have h1 := (cn_all ts f).1 0 k t m hm
  have h2 := need_at ho
  show rc t ≤ ts.length
  omega
theorem rules_cn (ts : List Tk) : ∀ (f i : Nat) (acc : List (List UInt8 × Tree)), (∀ v ∈ acc, rc v.2 ≤ ts.length) → All (fun l : List (List UInt8 × Tree) => ∀ v ∈ l, rc v.2 ≤ ts.length) (pRules ts f i acc)
  | 0, i, acc, _ => by intro v j h; rw [pRules] at h; cases h
  | f + 1, i, acc, ha => by
    rw [pRules]
    split
    · split
      · exact all_bad _ _ _
      · refine all_bind (rule_cn ts f i) fun v j _ hv => rules_cn ts f j _ fun w hw => ?_
        rcases List.mem_append.1 hw with hw | hw
        · exact ha w hw
        · rw [List.mem_singleton.1 hw]; exact hv
    · exact all_ok ha
theorem gram_cn (ts : List Tk) (f : Nat) : All (fun g : Gram => ∀ v ∈ g.rules, rc v.2 ≤ ts.length) (pGram ts f) := by
  unfold pGram
  split
  · exact all_res fun _ i _ => all_res fun n j _ => all_res fun _ k _ => all_bind (rules_cn ts f k [] (by simp)) fun rs m _ h => all_ok h
  · exact all_bind (rules_cn ts f 0 [] (by simp)) fun rs m _ h => all_ok h
end Go.Proofs.Ytakihbjfkpebcaa.Sx.Lit

namespace Go.Proofs.Ytakihbjfkpebcaa.Sx
open Lx (Tk)
set_option maxRecDepth 100000
set_option linter.unusedSimpArgs false
/-- What all rules of a text are: short, their trees small. -/
theorem parse_leaf {T : List Tk} {e : Tk} {G : Gram} {j : Nat} (he : e.kind = 4) (hv : ∀ t ∈ T, Lx.Valid t) (hT : T.length ≤ 65536) (h : parseT (T ++ [e]) = .ok G j) :
    G.start.length ≤ 32 ∧ (∀ r ∈ G.rules, r.1.length ≤ 32 ∧ LfW r.2) ∧ 0 < G.rules.length ∧ G.rules.length ≤ 64 := by
  have hkt : ∀ i, (tkAt (T ++ [e]) i).kind = 1 ∨ (tkAt (T ++ [e]) i).kind = 2 → (tkAt (T ++ [e]) i).text.length ≤ 32 := by
    intro i hk
    have hi : i < T.length := by
      rcases Nat.lt_or_ge i T.length with h1 | h1
      · exact h1
      · exfalso
        have : (tkAt (T ++ [e]) i).kind = 4 := by
          rcases Nat.eq_or_lt_of_le h1 with h2 | h2
          · have := tkAt_app_right (a := T) (b := [e]) 0
            rw [Nat.zero_add] at this
            rw [← h2, this]; exact he
          · unfold tkAt
            rw [List.getD_eq_getElem?_getD, List.getElem?_eq_none (by simp; omega)]
            rfl
        omega
    rw [tkAt_app_left hi] at hk ⊢
    have e1 : tkAt T i = T[i] := by simp [tkAt, List.getD, List.getElem?_eq_getElem hi]
    rw [e1] at hk ⊢
    rcases hv _ (List.getElem_mem hi) with h1 | h1 | h1
    · exact h1.2.2.1
    · omega
    · rw [h1.1] at hk; omega
  have hP := parseT_is (T ++ [e])
  rw [h] at hP
  have := gram_all (T ++ [e]) (ended_app T e he) LfW
    (fun i hk => .mk _ _ _ (by have := hkt i (.inl hk); omega) (by simp) (fun _ => rfl) fun a ha => absurd ha (by simp))
    (fun i hk => .mk _ _ _ (by have := hkt i (.inr hk); omega) (by simp) (fun _ => rfl) fun a ha => absurd ha (by simp))
    (fun acc ha hl _ => .mk _ _ _ (by simp) (by simp at hl; omega) (fun h => by omega) ha)
    (fun acc ha hl _ => .mk _ _ _ (by simp) (by simp at hl; omega) (fun h => by omega) ha)
    (fun k t hk ht => .mk _ _ _ (by simp) (by simp) (fun h => by omega) fun a ha => by rw [List.mem_singleton.1 ha]; exact ht)
    (fun n => n.length ≤ 32) (fun i hk => hkt i (.inl hk)) _ (by simp) G j hP
  exact this
/-- What is read, for its texts. -/
theorem read_leaf {s : List UInt8} {G : Gram} {j : Nat} (h : parseS s = .ok G j) (hs : s.length ≤ 1000) : ∀ r ∈ G.rules, LfW r.2 ∧ (lits r.2).length ≤ 65537 := by
  obtain ⟨T, e, hsc, hek, het, hv, hT, _, hPT⟩ := parseS_ok h (by omega)
  obtain ⟨h32, hsm, hl0, h64⟩ := parse_leaf hek hv (by omega) hPT
  have hP := parseT_is (T ++ [e])
  rw [hPT] at hP
  have hc := Lit.gram_cn (T ++ [e]) _ G j hP
  exact fun r hr => ⟨(hsm r hr).2, by have := hc r hr; unfold Lit.rc at this; simp at this; omega⟩
end Go.Proofs.Ytakihbjfkpebcaa.Sx
