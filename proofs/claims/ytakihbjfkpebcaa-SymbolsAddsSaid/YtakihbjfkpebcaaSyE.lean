/-
  The plain part of layer 7: In, First.
  The plain part of layer 7: Refs.
  The plain part of layer 7: the walk of Check.
  Layer 7: the walks of the law's node and grammar (as in layer 5).
-/
import Derived.Test.YtakihbjfkpebcaaSyC
import Derived.Deep.AppendLies
import Derived.Maps.AppendAt
import Derived.Laws.OwnMore
import Derived.Test.YtakihbjfkpebcaaLooseD
import Derived.Deep.RegionLaw
import Derived.Deep.CutBlock

namespace Go.Proofs.Ytakihbjfkpebcaa.Sx
open Go.RowKit
set_option maxRecDepth 100000
set_option linter.unusedSimpArgs false
set_option linter.unusedVariables false

theorem textEq (t t' : List UInt8) : ((Lx.mk t).toList == (Lx.mk t').toList) = decide (t = t') := by
  rw [Lib.toList_data, Lib.toList_data, Bool.eq_iff_iff]
  simp [Lx.mk]

set_option maxHeartbeats 2000000 in
theorem in_any (l : List Nam) (hn : l.length ≤ 1099511627776) (s : Nam) (W : World) (v : Value) (h : NmsAt W l v) :
    Calls Try.prog 29 #[v, .string (Lx.mk s)] W fun e w' => e = .returned (.bool (decide (s ∈ l))) ∧ w' = W := by
  obtain ⟨A, cap, b, rfl, h3, h4⟩ := h
  obtain ⟨n, hn1⟩ : ∃ n, n = l.length := ⟨_, rfl⟩
  rw [← hn1] at h3 hn ⊢
  have HN := Lib.hid hn1
  have H3 := Lib.hid h3
  have H4 := Lib.hid h4
  have HTE := Lib.hid (fun x => textEq x s)
  obtain ⟨sm, hsm⟩ : ∃ sm, sm = Lx.mk s := ⟨_, rfl⟩
  rw [← hsm] at HTE ⊢
  clear hn1 h3 h4 hsm
  go_enter Try.func29, Try.ntmps29
  go_wp2_with fail
  go_loopw [5] (fun i wr => ∃ j : Nat, j ≤ n ∧ i = .int .i64 j ∧ wr = W ∧ s ∉ l.take j) (fun i _ => n - (intOf i).toNat)
  case atStart => exact ⟨0, Nat.zero_le _, rfl, rfl, by simp⟩
  case round =>
    obtain ⟨j, hj, rfl, rfl, hno⟩ := hrel
    have HNO := Lib.hid hno
    clear hno
    by_cases hjn : j < n
    · have hjn2 : (j : Int) < (n : Int) := by omega
      have hjl : j < l.length := by rw [← HN.out]; exact hjn
      obtain ⟨rfl, hbl⟩ := H3.out (by omega)
      have y := H4.out j hjl
      have hT := HTE.out l[j]
      have HLJ := Lib.hid (show l.take (j + 1) = l.take j ++ [l[j]] from List.take_succ_eq_append_getElem hjl)
      have HMM := Lib.hid (List.getElem_mem hjl)
      unfold strV at y
      by_cases hx : l[j] = s
      · have e1 : ((Lx.mk l[j]).toList == sm.toList) = true := by rw [hT, decide_eq_true hx]
        have HIN := Lib.hid (show s ∈ l from hx ▸ HMM.out)
        obtain ⟨xm, hxm⟩ : ∃ xm, xm = Lx.mk l[j] := ⟨_, rfl⟩
        rw [← hxm] at e1 y
        clear hx hT hxm
        go_wp2
        go_ret
        exact ⟨by rw [decide_eq_true HIN.out]; rfl, rfl⟩
      · have e1 : ((Lx.mk l[j]).toList == sm.toList) = false := by rw [hT, decide_eq_false hx]
        have HNX := Lib.hid (show s ∉ l.take (j + 1) by
          rw [HLJ.out, List.mem_append, not_or]
          exact ⟨HNO.out, fun h => hx (List.mem_singleton.mp h).symm⟩)
        obtain ⟨xm, hxm⟩ : ∃ xm, xm = Lx.mk l[j] := ⟨_, rfl⟩
        rw [← hxm] at e1 y
        clear hx hT hxm
        go_wp2
        go_roundw
        case rel => exact ⟨j + 1, by omega, by simp, by trivial, HNX.out⟩
        case measure => simp [intOf]; omega
    · have hje : j = n := by omega
      have hjm2 : ¬ (j : Int) < (n : Int) := by omega
      have HT := Lib.hid (show s ∉ l by have := HNO.out; rwa [hje, HN.out, List.take_length] at this)
      go_wp2
      go_ret
      exact ⟨by rw [decide_eq_false HT.out]; rfl, rfl⟩
theorem firstGo_drop (s : Nam) : ∀ (l : List Rul) (k j : Nat), (∀ i (h : i < l.length), i < j → l[i].1 ≠ s) → firstGo l s k = firstGo (l.drop j) s (k + j)
  | l, k, 0, _ => by simp
  | [], k, j + 1, _ => by simp [firstGo]
  | r :: l, k, j + 1, h => by
    rw [firstGo, if_neg (show r.1 ≠ s from h 0 (by simp) (by omega)), List.drop_succ_cons, firstGo_drop s l (k + 1) j (fun i hi hj => h (i + 1) (by simp; omega) (by omega))]
    congr 1
    omega

set_option maxHeartbeats 2000000 in
theorem first_any (rs : List Rul) (hl : rs.length ≤ 1099511627776) (tx : ByteArray) (s : Nam) (P : Nat → Prop) (W : World) (v : Value) (h : RlsAt P W rs v) (hP : ∀ r, P r → r < W.heap.size) :
    Calls Try.prog 15 #[.agg #[.string tx, v], .string (Lx.mk s)] W fun e w' => e = .returned (.int .i64 (firstP rs s)) ∧ Below W.heap.size W w' := by
  obtain ⟨A, cap, b, a0, a1, a2, rfl, hcap, h3, h4⟩ := h
  obtain ⟨n, hn1⟩ : ∃ n, n = rs.length := ⟨_, rfl⟩
  rw [← hn1] at h3 hcap hl ⊢
  have HN := Lib.hid hn1
  have H3 := Lib.hid h3
  have H4 := Lib.hid h4
  have HTE := Lib.hid (fun x => textEq x s)
  have HP := Lib.hid hP
  obtain ⟨sm, hsm⟩ : ∃ sm, sm = Lx.mk s := ⟨_, rfl⟩
  rw [← hsm] at HTE ⊢
  have HB := Lib.hid ((Below.refl W.heap.size W).alloc (Nat.le_refl _) (.cells #[.string tx, .slice A n cap] 30))
  have hbx := heap_alloc_new W (.cells #[.string tx, .slice A n cap] 30)
  have x1 := cell_of_row _ _ 1 _ _ (0, 0) hbx
  clear hn1 h3 h4 hsm hbx hP
  go_enter Try.func15, Try.ntmps15
  go_wp2_with fail
  generalize hV : World.alloc W _ = wq
  rw [hV] at HB x1
  clear hV
  go_loopw [5] (fun i wr => ∃ j : Nat, j ≤ n ∧ i = .int .i64 j ∧ wr = wq ∧ ∀ i (h : i < rs.length), i < j → rs[i].1 ≠ s) (fun i _ => n - (intOf i).toNat)
  case atStart => exact ⟨0, Nat.zero_le _, rfl, rfl, fun i _ h => absurd h (by omega)⟩
  case round =>
    obtain ⟨j, hj, rfl, rfl, hno⟩ := hrel
    have HNO := Lib.hid hno
    clear hno
    by_cases hjn : j < n
    · have hjn2 : (j : Int) < (n : Int) := by omega
      have hjl : j < rs.length := by rw [← HN.out]; exact hjn
      obtain ⟨rfl, hbl, hPb⟩ := H3.out (by omega)
      obtain ⟨⟨q0, q1, q2, q3⟩, hnd⟩ := H4.out j hjl
      have y := (HB.out.cell (p := ⟨b, j * 4, none⟩) (HP.out b (by assumption))).trans q0
      have hT := HTE.out rs[j].1
      have HDR := Lib.hid (firstGo_drop s rs 0 j HNO.out)
      have HDC := Lib.hid (show rs.drop j = rs[j] :: rs.drop (j + 1) from List.drop_eq_getElem_cons hjl)
      clear q0 q1 q2 q3 hnd
      by_cases hx : rs[j].1 = s
      · have e1 : ((Lx.mk rs[j].1).toList == sm.toList) = true := by rw [hT, decide_eq_true hx]
        have HF := Lib.hid (show firstP rs s = (j : Int) by
          unfold firstP
          rw [HDR.out, HDC.out, firstGo, if_pos hx]
          simp)
        obtain ⟨xm, hxm⟩ : ∃ xm, xm = Lx.mk rs[j].1 := ⟨_, rfl⟩
        rw [← hxm] at e1 y
        clear hx hT hxm
        go_wp2
        go_ret
        exact ⟨by rw [HF.out]; rfl, HB.out⟩
      · have e1 : ((Lx.mk rs[j].1).toList == sm.toList) = false := by rw [hT, decide_eq_false hx]
        have HNX := Lib.hid (show ∀ i (h : i < rs.length), i < j + 1 → rs[i].1 ≠ s from fun i h hi => by
          by_cases e : i = j
          · subst e; exact hx
          · exact HNO.out i h (by omega))
        obtain ⟨xm, hxm⟩ : ∃ xm, xm = Lx.mk rs[j].1 := ⟨_, rfl⟩
        rw [← hxm] at e1 y
        clear hx hT hxm
        go_wp2
        go_roundw
        case rel => exact ⟨j + 1, by omega, by simp, by trivial, HNX.out⟩
        case measure => simp [intOf]; omega
    · have hje : j = n := by omega
      have hjm2 : ¬ (j : Int) < (n : Int) := by omega
      have HF := Lib.hid (show firstP rs s = -1 by
        unfold firstP
        rw [firstGo_drop s rs 0 j HNO.out, List.drop_of_length_le (by rw [hje, HN.out]; exact Nat.le_refl _)]
        rfl)
      go_wp2
      go_ret
      exact ⟨by rw [HF.out]; rfl, HB.out⟩
end Go.Proofs.Ytakihbjfkpebcaa.Sx

namespace Go.Proofs.Ytakihbjfkpebcaa.Sx
open Go.RowKit
set_option maxRecDepth 100000
set_option linter.unusedSimpArgs false
set_option linter.unusedVariables false

/-- Appending a row of names that may be nil or empty. -/
theorem run_append_nms (t : TypeId) (w : World) (base : Nat) (v : Value) (n : Nat) (xs : List Value) (hown : w.ownsRow base 9 1 v n xs) (l : List Nam) (u : Value) (h : NmsAt w l u) (hm : n + l.length ≤ 4398046511104) (hb : base ≤ w.heap.size) :
    ∃ v' w', (Builtin.append_ #[34, 34] t #[v, u]).run Try.prog w = .ok v' w' ∧ w'.ownsRow base 9 1 v' (n + l.length) (xs ++ l.map strV) ∧ w.grownBy w' v.ownBlock ∧ (v'.ownBlock = v.ownBlock ∨ v'.ownBlock = some w.heap.size) := by
  obtain ⟨i0, hi0, hz0, hz1, hz2⟩ := info_parts strinfo
  obtain ⟨A, cap, b, rfl, h3, h4⟩ := h
  cases A with
  | none =>
    have hl : l.length = 0 := by
      rcases Nat.eq_zero_or_pos l.length with h0 | h0
      · exact h0
      · obtain ⟨h5, _⟩ := h3 h0; cases h5
    have e := List.eq_nil_of_length_eq_zero hl
    subst e
    refine ⟨v, w, ?_, by simpa using hown, ⟨rfl, rfl, rfl, Nat.le_refl _, fun _ _ _ => rfl⟩, .inl rfl⟩
    rcases hown.2 with ⟨rfl, rfl⟩ | ⟨g, cap, cur, rfl, _, _, hnc, _⟩
    · simp [Builtin.append_, run_underlying Try.underlying34, sizeOf, typeInfo, hi0, Builtin.lenOf, Builtin.firstCells]
    · simp [Builtin.append_, run_underlying Try.underlying34, sizeOf, typeInfo, hi0, Builtin.lenOf, Builtin.firstCells, hnc, storeCells]
  | some ad =>
    obtain ⟨v', w', h1, h2, h5, _, h6⟩ := run_append_own_at (P := Try.prog) w base 34 t 9 i0 (.string ⟨#[]⟩) 1 16 Try.underlying34 hi0 hz0 hz1 hz2 rfl (by decide) v n xs hown ad l.length cap (l.map strV) (by simp) (fun j u hj => by
      obtain ⟨h0, hj2⟩ : ∃ h0 : j < l.length, strV l[j] = u := by
        rw [List.getElem?_map] at hj
        rcases Nat.lt_or_ge j l.length with h0 | h0
        · rw [List.getElem?_eq_getElem h0] at hj; exact ⟨h0, by injection hj⟩
        · rw [List.getElem?_eq_none h0] at hj; cases hj
      obtain ⟨e1, _⟩ := h3 (by omega)
      injection e1 with e1
      subst e1
      rw [Gn.add_row, h4 j h0, hj2]) (by simp [Value.oneCell', strV]) (by unfold maxLen; omega) (by omega) hb
    exact ⟨v', w', h1, h2, h5, h6⟩
theorem wpList_append_nms {ops : Array Oper} {rest : List Oper} {o : Oper} {a : Act} {Q : Exit → Act → World → Prop} (w : World) (hgd : o.guard = none) (s x : Operand)
    (ho : o.op = .call { callee := .builtin .append, args := #[s, x], argTypes := #[34, 34] })
    (base : Nat) (v : Value) (n : Nat) (xs : List Value) (hs : a.eval s = v) (hown : w.ownsRow base 9 1 v n xs) (l : List Nam) (u : Value) (hx : a.eval x = u) (hi : NmsAt w l u) (hm : n + l.length ≤ 4398046511104) (hb : base ≤ w.heap.size)
    (h : ∀ v' w', w'.ownsRow base 9 1 v' (n + l.length) (xs ++ l.map strV) → w.grownBy w' v.ownBlock → (v'.ownBlock = v.ownBlock ∨ v'.ownBlock = some w.heap.size) → wpList Try.prog ops Q rest (a.put o.dst v') w') :
    wpList Try.prog ops Q (o :: rest) a w := by
  refine wpList_plain hgd fun K hK => ?_
  obtain ⟨v', w', hr, h2, h3, h4⟩ := run_append_nms o.type w base v n xs hown l u hi hm hb
  unfold Oper.wp execOp
  simp only [ho, resolve, invoke, builtin, Sem.run_bind, Sem.run_pure, Result.andThen_ok, List.map_toArray, List.map_cons, List.map_nil, hs, hx, hr]
  exact hK _ _ (h v' w' h2 h3 h4)

set_option maxHeartbeats 4000000 in
theorem refq_any {t : Tree} (h : SmW t) : ∀ (P : Nat → Prop) (W : World) (x y z : Value), Nd P W t x y z → (∀ r, P r → r < W.heap.size) → (refs t).length ≤ 4398046511104 →
    Calls Try.prog 30 #[.agg #[x, y, z]] W fun e w' => ∃ v', e = .returned v' ∧ w'.ownsRow W.heap.size 9 1 v' (refs t).length ((refs t).map strV) ∧ Below W.heap.size W w' := by
  induction h with
  | mk kd tx l htl hlen hl ih =>
    intro P W x y z hnd hP hbig
    cases hnd with
    | mk _ _ _ A cap r a b c hA hcap hc hk =>
    obtain ⟨m, hm⟩ : ∃ m, m = l.length := ⟨_, rfl⟩
    rw [← hm] at hA hcap hc hlen ⊢
    have HMM := Lib.hid hm
    have HA := Lib.hid hA
    have HC := Lib.hid hc
    have HK := Lib.hid hk
    have HP := Lib.hid hP
    have HIH := Lib.hid ih
    have HB1 := Lib.hid ((Below.refl W.heap.size W).alloc (Nat.le_refl _) (.cells #[.int .i64 kd, .string (Lx.mk tx), .slice A m cap] 57))
    obtain ⟨s, hs⟩ : ∃ s, s = Lx.mk tx := ⟨_, rfl⟩
    rw [← hs] at HB1 ⊢
    have HS := Lib.hid hs
    clear hm hA hc hk hP ih hl hs
    by_cases hkd : kd = 1
    · have e0 : ((kd : Int) == 1) = true := by rw [hkd]; rfl
      have er : refs (.node kd tx l) = [tx] := by rw [refs, if_pos hkd]
      rw [er]
      have ho := World.ownsRow_lit (base := W.heap.size) (e := 9) (size := 1) (W.alloc (.cells #[.int .i64 kd, .string s, .slice A m cap] 57)) #[.string s] 1 (by simp) (by decide) rfl
      rw [heap_size_alloc'] at ho
      have HO := Lib.hid ho
      clear ho
      have HB2 := Lib.hid (HB1.out.alloc (by simp) (.cells #[.string s] 9))
      clear hkd er
      go_enter Try.func30, Try.ntmps30
      go_wp2_with fail
      go_ret
      exact ⟨_, rfl, by have := HO.out; rw [HS.out] at this ⊢; exact this, HB2.out⟩
    · have e0 : ((kd : Int) == 1) = false := by rw [beq_eq_false_iff_ne]; omega
      have er : refs (.node kd tx l) = refsL l := by rw [refs, if_neg hkd]
      rw [er] at hbig ⊢
      have hbx := heap_alloc_new W (.cells #[.int .i64 kd, .string s, .slice A m cap] 57)
      have HBX := Lib.hid hbx
      have x2 := cell_of_row _ _ 2 _ _ (0, 0) hbx
      clear hkd er hbx
      go_enter Try.func30, Try.ntmps30
      go_wp2_with fail
      generalize hV : World.alloc W _ = V
      rw [hV] at HB1 HBX x2
      have hV1 : W.heap.size < V.heap.size := by rw [← hV]; simp
      clear hV
      go_loopw [3, 4] (fun nv i wr => ∃ (j : Nat), j ≤ m ∧ i = .int .i64 j ∧ wr.ownsRow (W.heap.size + 1) 9 1 nv (refsL (l.take j)).length ((refsL (l.take j)).map strV) ∧ wr.heap[W.heap.size]? = some (.cells #[.int .i64 kd, .string s, .slice A m cap] 57 (0, 0)) ∧ Below W.heap.size W wr) (fun _ i _ => m - (intOf i).toNat)
      case atStart => exact ⟨0, Nat.zero_le _, rfl, by simpa [refsL] using World.ownsRow_nil _ _ _ _, HBX.out, HB1.out⟩
      case round =>
        obtain ⟨j, hj, rfl, hown, hbx, hb⟩ := hrel
        have HO := Lib.hid hown
        have HB := Lib.hid hb
        have HBX := Lib.hid hbx
        have z2 := cell_of_row _ _ 2 _ _ (0, 0) hbx
        have hsz := Gn.heap_lt hbx
        obtain ⟨Av, cv, rfl⟩ := Gn.slice_of hown
        have hlt0 := Gn.own_lt hown
        clear hown hb hbx
        by_cases hjm : j < m
        · have hjm2 : (j : Int) < (m : Int) := by omega
          have hjl : j < l.length := by rw [← HMM.out]; exact hjm
          obtain ⟨eA, hr, hPr⟩ := HA.out (by omega)
          subst eA
          have hrB : r < W.heap.size := HP.out r hPr
          obtain ⟨q0, q1, q2⟩ := HC.out j hjm
          have y0 := (HB.out.cell (p := ⟨r, j * 3, none⟩) hrB).trans q0
          have y1 := (HB.out.cell (p := ⟨r, j * 3 + 1, none⟩) hrB).trans q1
          have y2 := (HB.out.cell (p := ⟨r, j * 3 + 2, none⟩) hrB).trans q2
          have hkj := (HK.out j hjl).keep (Q := P) HB.out.size (fun q hp _ => ⟨hp, fun i => HB.out.cell (p := ⟨q, i, none⟩) (HP.out q hp)⟩)
          have hlt := refsL_take l j hjl
          have hle := refsL_len l (j + 1)
          have HTL := Lib.hid hlt
          have hlen2 : (refsL (l.take (j + 1))).length = (refsL (l.take j)).length + (refs l[j]).length := by rw [hlt, List.length_append]
          have HL2 := Lib.hid hlen2
          obtain ⟨kk, ss, AA, qq, cc, f1, f2, f3⟩ := hkj.form
          rw [f1] at y0
          rw [f2] at y1
          rw [f3] at y2
          rw [f1, f2, f3] at hkj
          have HKJ := Lib.hid (HIH.out _ (List.getElem_mem hjl) P wr _ _ _ hkj (fun q hq => Nat.lt_of_lt_of_le (HP.out q hq) HB.out.size) (by omega))
          obtain ⟨N, hN⟩ : ∃ N, N = (refsL (l.take j)).length := ⟨_, rfl⟩
          have hsum : N + (refs l[j]).length ≤ 4398046511104 := by omega
          have HSUM := Lib.hid hsum
          rw [← hN] at HO hlt0 ⊢
          have HN := Lib.hid hN
          clear q0 q1 q2 hkj hlt hle hlen2 f1 f2 f3 hN hsum
          go_wp2_with fail
          refine HKJ.out.mono ?_
          rintro e w3 ⟨v3, rfl, ho3, hb3⟩
          have HO3 := Lib.hid (HO.out.kept (row := none) ⟨hb3.os, hb3.tape, hb3.output, hb3.size, fun q hq _ => hb3.block q hq⟩ (by
            rcases h : (Value.slice Av N cv).ownBlock with _ | g
            · exact .inl rfl
            · exact .inr (by simp)))
          have HNM := Lib.hid (NmsAt.of_own rfl ho3)
          have HBX3 := Lib.hid ((hb3.block _ hsz).trans HBX.out)
          have HB3 := Lib.hid (HB.out.trans (hb3.mono HB.out.size))
          have hs3 : W.heap.size + 1 ≤ w3.heap.size := by have := hb3.size; omega
          have HOB := Lib.hid (Gn.own_block HO.out)
          clear ho3 hb3 y0 y1 y2
          go_wp2_with (at_builtin; refine wpList_append_nms _ rfl _ _ rfl (W.heap.size + 1) (.slice Av N cv) N _ rfl HO3.out (refs l[j]) _ rfl HNM.out HSUM.out hs3 ?_; intro v4 w4 ho4 hg4 hat4; have HO4 := Lib.hid ho4; have HG4 := Lib.hid hg4; clear ho4 hg4 hat4)
          have HB4 := Lib.hid (show Below W.heap.size W w4 from HB3.out.trans ⟨HG4.out.os, HG4.out.tape, HG4.out.output, HG4.out.size, fun q hq => HG4.out.block q (by omega) (fun e => by have := HOB.out q e.symm; omega)⟩)
          have HBX4 := Lib.hid ((HG4.out.block W.heap.size (by omega) (fun e => by have := HOB.out _ e.symm; omega)).trans HBX3.out)
          go_roundw
          case rel => exact ⟨j + 1, by omega, by simp, by rw [HL2.out, HTL.out, ← HN.out, List.map_append]; exact HO4.out, HBX4.out, HB4.out⟩
          case measure => simp [intOf]; omega
        · have hje : m = j := by omega
          subst hje
          have hjm2 : ¬ ((m : Nat) : Int) < ((m : Nat) : Int) := by omega
          have HT := Lib.hid (show l.take m = l by rw [HMM.out, List.take_length])
          go_wp2_with fail
          go_ret
          exact ⟨_, rfl, by have := HO.out; rw [HT.out] at this ⊢; exact own_mono1 this (Nat.le_succ _), HB.out⟩
end Go.Proofs.Ytakihbjfkpebcaa.Sx

namespace Go.Proofs.Ytakihbjfkpebcaa.Sx
open Go.RowKit
set_option maxRecDepth 100000
set_option linter.unusedSimpArgs false
set_option linter.unusedVariables false

theorem pqinfo : (Try.prog.info? 50).map (fun i => (i.zero, i.size, i.bytes)) = some (some (.agg #[.int .i64 0, .int .i64 0, .string ⟨#[]⟩]), 3, 32) := by kernel_rfl
/-- The problems so far, the grammar's box. -/
structure CkQ (W0 : World) (cs : Array Value) (pv : Value) (ps : List Prb) (W : World) : Prop where
  box : W.heap[W0.heap.size]? = some (.cells cs 30 (0, 0))
  row : W.ownsRow (W0.heap.size + 1) 50 3 pv ps.length (cellsP ps)
  below : Below W0.heap.size W0 W
section
variable {W0 W W' : World} {cs : Array Value} {pv v' : Value} {ps : List Prb}
theorem CkQ.under (h : CkQ W0 cs pv ps W) (b : Below W.heap.size W W') : CkQ W0 cs pv ps W' :=
  ⟨(b.block _ (Gn.heap_lt h.box)).trans h.box, own_under h.row b, h.below.trans (b.mono h.below.size)⟩
theorem CkQ.snoc (h : CkQ W0 cs pv ps W) (p : Prb) (ho : W'.ownsRow (W0.heap.size + 1) 50 3 v' (ps.length + 1) (cellsP ps ++ prV p)) (hg : W.grownBy W' pv.ownBlock) : CkQ W0 cs v' (ps ++ [p]) W' := by
  have hob := fun j hj => Gn.own_block h.row j hj
  refine ⟨(hg.block _ (Gn.heap_lt h.box) (fun e => by have := hob _ e.symm; omega)).trans h.box, ?_, h.below.grown hg h.below.size (fun j hj => by have := hob j hj; omega)⟩
  rw [List.length_append, cellsP_snoc]
  exact ho
end
theorem onceGo_has {s : Nam} : ∀ (l acc : List Nam), s ∈ acc ∨ s ∈ l → s ∈ onceGo acc l
  | [], acc, h => by rw [onceGo]; exact h.resolve_right (by simp)
  | a :: l, acc, h => by
    rw [onceGo]
    split
    · rename_i ha
      refine onceGo_has l acc ?_
      rcases h with h | h
      · exact .inl h
      · rcases List.mem_cons.mp h with rfl | h
        · exact .inl ha
        · exact .inr h
    · refine onceGo_has l _ ?_
      rcases h with h | h
      · exact .inl (List.mem_append.mpr (.inl h))
      · rcases List.mem_cons.mp h with rfl | h
        · exact .inl (by simp)
        · exact .inr h
theorem onceP_iff {s : Nam} {l : List Nam} : s ∈ onceP l ↔ s ∈ l := ⟨onceP_mem, fun h => onceGo_has l [] (.inr h)⟩
/-- One name on. -/
theorem miss_step (rs : List Rul) (k : Nat) (l : List Nam) (j : Nat) (h : j < l.length) : noneP rs k (onceP (l.take (j + 1))) = if firstP rs l[j] = -1 ∧ l[j] ∉ l.take j then noneP rs k (onceP (l.take j)) ++ [(10, (k : Int), l[j])] else noneP rs k (onceP (l.take j)) := by
  rw [onceP_take l j h]
  by_cases h1 : l[j] ∈ l.take j
  · rw [if_pos (onceP_iff.mpr h1), if_neg (fun h2 => h2.2 h1)]
  · rw [if_neg (fun h2 => h1 (onceP_iff.mp h2))]
    by_cases h2 : firstP rs l[j] = -1
    · rw [if_pos ⟨h2, h1⟩]; simp [noneP, h2]
    · rw [if_neg (fun h3 => h2 h3.1)]; simp [noneP, h2]
theorem first_low (rs : List Rul) (s : Nam) : -1 ≤ firstP rs s := by
  rcases first_ge rs s 0 with h | h
  · unfold firstP; omega
  · unfold firstP; omega
theorem first_self (rs : List Rul) (k : Nat) (h : k < rs.length) : 0 ≤ firstP rs rs[k].1 ∧ firstP rs rs[k].1 ≤ (k : Int) := by
  have key : ∀ (l : List Rul) (s : Nam) (j i : Nat) (h : i < l.length), l[i].1 = s → (j : Int) ≤ firstGo l s j ∧ firstGo l s j ≤ ((j + i : Nat) : Int) := by
    intro l
    induction l with
    | nil => intro s j i h; exact absurd h (by simp)
    | cons r l ih =>
      intro s j i h e
      rw [firstGo]
      by_cases e1 : r.1 = s
      · rw [if_pos e1]; omega
      · rw [if_neg e1]
        cases i with
        | zero => exact absurd e e1
        | succ i =>
          have := ih s (j + 1) i (by simpa using h) e
          omega
  have := key rs rs[k].1 0 k h rfl
  unfold firstP
  omega

set_option maxHeartbeats 16000000 in
theorem checkq_any (G : Gram) (hn64 : G.rules.length ≤ 1024) (K : Nat) (hK : K ≤ 1048576) (hsm : ∀ r ∈ G.rules, SmW r.2 ∧ (refs r.2).length ≤ K) (P : Nat → Prop) (W : World) (y : Value) (h : RlsAt P W G.rules y) (hP : ∀ r, P r → r < W.heap.size) :
    Calls Try.prog 18 #[.agg #[.string (Lx.mk G.start), y]] W fun e w' => ∃ pv, e = .returned pv ∧ w'.ownsRow W.heap.size 50 3 pv (checkP G).length (cellsP (checkP G)) ∧ Below W.heap.size W w' := by
  obtain ⟨i9, hi9, hz0, hz1, hz2⟩ := info_parts pqinfo
  have hq := h.keep (Q := fun r => r < W.heap.size) (Nat.le_refl _) (fun r hp hr => ⟨hr, fun _ => rfl⟩)
  have HQ := Lib.hid hq
  obtain ⟨A, cap, b, a0, a1, a2, rfl, hcap, h3, h4⟩ := hq
  obtain ⟨rs, hrs⟩ : ∃ rs, rs = G.rules := ⟨_, rfl⟩
  rw [← hrs] at hn64 hsm h3 h4 hcap HQ ⊢
  obtain ⟨n, hn⟩ : ∃ n, n = rs.length := ⟨_, rfl⟩
  have hl0 : rs.length ≤ 1099511627776 := by omega
  rw [← hn] at h3 hn64 HQ hcap ⊢
  obtain ⟨ss, hss⟩ : ∃ ss, ss = Lx.mk G.start := ⟨_, rfl⟩
  have HSS := Lib.hid hss
  rw [← hss]
  have HBX := Lib.hid (heap_alloc_new W (.cells #[.string ss, .slice A n cap] 30))
  have HBB := Lib.hid ((Below.refl W.heap.size W).alloc (Nat.le_refl _) (.cells #[.string ss, .slice A n cap] 30))
  have HKO := Lib.hid (fun (s : Nam) (w : World) (hw : Below W.heap.size W w) => first_any rs hl0 ss s (fun r => r < W.heap.size) w _ (HQ.out.under hw) (fun q hq => Nat.lt_of_lt_of_le hq hw.size))
  have HN := Lib.hid hn
  have HRS := Lib.hid hrs
  have HSM := Lib.hid hsm
  have H3 := Lib.hid h3
  have H4 := Lib.hid h4
  clear hn hrs hsm h3 h4 hl0 h hP hss
  go_enter Try.func18, Try.ntmps18
  go_wp2_with fail
  generalize hV : World.alloc W _ = w1
  rw [hV] at HBX HBB
  have hV1 : W.heap.size < w1.heap.size := by rw [← hV]; simp
  clear hV
  have HA0 := Lib.hid (show CkQ W #[.string ss, .slice A n cap] (.slice none 0 0) [] w1 from ⟨HBX.out, World.ownsRow_nil _ _ _ _, HBB.out⟩)
  clear HBX HBB
  go_loopw [3, 4] (fun pv i wr => ∃ j : Nat, j ≤ n ∧ i = .int .i64 j ∧ CkQ W #[.string ss, .slice A n cap] pv (rulesGo rs 0 (rs.take j)) wr) (fun _ i _ => n - (intOf i).toNat)
  case atStart => exact ⟨0, Nat.zero_le _, rfl, HA0.out⟩
  case round =>
    obtain ⟨k, hk, rfl, hA⟩ := hrel
    obtain ⟨Ap, cp, hpv⟩ := Gn.slice_of hA.row
    subst hpv
    obtain ⟨ps, hps⟩ : ∃ ps, ps = rulesGo rs 0 (rs.take k) := ⟨_, rfl⟩
    have hpl : ps.length ≤ 1073742848 := by
      rw [hps]
      have h5 := rulesGo_len rs K (rs.take k) 0 (fun r hr => (HSM.out r (List.mem_of_mem_take hr)).2)
      have h6 : (rs.take k).length ≤ 1024 := by rw [List.length_take]; omega
      have h7 := Nat.mul_le_mul h6 (show K + 1 ≤ 1048577 by omega)
      omega
    rw [← hps] at hA ⊢
    have HPS := Lib.hid hps
    obtain ⟨np, hnp⟩ : ∃ np, np = ps.length := ⟨_, rfl⟩
    have HNP := Lib.hid hnp
    rw [← hnp] at hpl ⊢
    have HA := Lib.hid (show CkQ W #[.string ss, .slice A n cap] (.slice Ap np cp) ps wr by rw [hnp]; exact hA)
    have z0 := cell_of_row _ _ 0 _ _ (0, 0) hA.box
    have z1 := cell_of_row _ _ 1 _ _ (0, 0) hA.box
    have hWr := Gn.heap_lt hA.box
    clear hps hnp hA
    by_cases hlt : k < n
    · have hlt2 : (k : Int) < (n : Int) := by omega
      have hkl : k < rs.length := by rw [← HN.out]; exact hlt
      obtain ⟨rfl, hbl, _⟩ := H3.out (by omega)
      obtain ⟨⟨q0, q1, q2, q3⟩, hnd⟩ := H4.out k hkl
      obtain ⟨kk, ta, AA, qq, cc, f1, f2, f3⟩ := hnd.form
      rw [f1] at q1
      rw [f2] at q2
      rw [f3] at q3
      rw [f1, f2, f3] at hnd
      obtain ⟨s2, s3⟩ := HSM.out _ (List.getElem_mem hkl)
      have HTK := Lib.hid (show rulesGo rs 0 (rs.take (k + 1)) = ps ++ ruleP rs k rs[k] by
        rw [List.take_succ_eq_append_getElem hkl, rulesGo_snoc, ← HPS.out, List.length_take, Nat.zero_add, Nat.min_eq_left (by omega)])
      have HFS := Lib.hid (first_self rs k hkl)
      obtain ⟨r, hr⟩ : ∃ r, r = rs[k] := ⟨_, rfl⟩
      rw [← hr] at q0 hnd s2 s3 HTK HFS
      have HBL := Lib.hid hbl
      have HY := Lib.hid (show ∀ w, Below W.heap.size W w → w.cell? ⟨b, k * 4, none⟩ = some (.string (Lx.mk r.1)) ∧ w.cell? ⟨b, k * 4 + 1, none⟩ = some (.int .i64 kk) ∧ w.cell? ⟨b, k * 4 + 2, none⟩ = some (.string ta) ∧ w.cell? ⟨b, k * 4 + 3, none⟩ = some (.slice AA qq cc) from fun w bw =>
        ⟨(bw.cell (p := ⟨b, k * 4, none⟩) hbl).trans q0, (bw.cell (p := ⟨b, k * 4 + 1, none⟩) hbl).trans q1, (bw.cell (p := ⟨b, k * 4 + 2, none⟩) hbl).trans q2, (bw.cell (p := ⟨b, k * 4 + 3, none⟩) hbl).trans q3⟩)
      have HRF := Lib.hid (fun w (bw : Below W.heap.size W w) => refq_any s2 (fun q => q < W.heap.size) w _ _ _ (hnd.keep bw.size (fun q hq _ => ⟨hq, fun i => bw.cell (p := ⟨q, i, none⟩) hq⟩)) (fun q hq => Nat.lt_of_lt_of_le hq bw.size) (by omega))
      obtain ⟨nm, hnm⟩ : ∃ nm, nm = Lx.mk r.1 := ⟨_, rfl⟩
      have HK1 := Lib.hid (fun w bw => HKO.out r.1 w bw)
      rw [← hnm] at HY HK1
      have HNM := Lib.hid hnm
      obtain ⟨bd, hbd⟩ : ∃ bd, bd = refs r.2 := ⟨_, rfl⟩
      rw [← hbd] at HRF s3
      have HRP := Lib.hid (show ruleP rs k r = (if firstP rs r.1 = (k : Int) then [] else [(9, (k : Int), r.1)]) ++ noneP rs k (onceP bd) by rw [hbd]; rfl)
      obtain ⟨fp, hfp⟩ : ∃ fp, fp = firstP rs r.1 := ⟨_, rfl⟩
      rw [← hfp] at HK1 HRP HFS
      clear hr q0 q1 q2 q3 hnd f1 f2 f3 s2 hnm hbd hfp
      by_cases hf : fp < (k : Int)
      · have e1 : decide (fp < (k : Int)) = true := decide_eq_true hf
        go_wp2_with fail
        refine LooseD.region_loose (fun w => Below wr.heap.size wr w ∧ w.heap[W.heap.size]? = some (.cells #[.string ss, .slice (some ⟨b, 0, none⟩) n cap] 30 (0, 0))) _ _ (by kernel_rfl) (by kernel_rfl)
          (LooseD.waits (D := [[], [], [], [], [], [], [], [], [], []]) (by kernel_rfl))
          (LooseD.stays (ts := [none, none, none, none, none, none, none, some (.is (.int .i64 fp)), none, none]) (fun w w' h b => ⟨h.1.trans (b.mono h.1.size), (b.block _ (Gn.heap_lt h.2)).trans h.2⟩) (.none (.none (.none (.none (.none (.none (.none (.is (.none (.none .nil)))))))))))
          ⟨(Below.refl _ _).drew, HA.out.box⟩ ?_
        refine LooseD.reads (.agg #[.string ss, .slice (some ⟨b, 0, none⟩) n cap]) rfl rfl ?_ ?_
        · intro w hw
          have q0 := cell_of_row _ _ 0 _ _ (0, 0) hw.2
          have q1 := cell_of_row _ _ 1 _ _ (0, 0) hw.2
          clear hw
          go_simp
        try simp only [Act.put, List.setIfInBounds_toArray, List.set_cons_zero, List.set_cons_succ]
        refine LooseD.reads (.pointer (some ⟨W.heap.size, 1, none⟩)) rfl rfl ?_ ?_
        · intro w hw
          clear hw
          go_simp
        try simp only [Act.put, List.setIfInBounds_toArray, List.set_cons_zero, List.set_cons_succ]
        refine LooseD.reads (.slice (some ⟨b, 0, none⟩) n cap) rfl rfl ?_ ?_
        · intro w hw
          have q0 := cell_of_row _ _ 0 _ _ (0, 0) hw.2
          have q1 := cell_of_row _ _ 1 _ _ (0, 0) hw.2
          clear hw
          go_simp
        try simp only [Act.put, List.setIfInBounds_toArray, List.set_cons_zero, List.set_cons_succ]
        refine LooseD.reads (.int .i64 k) rfl rfl ?_ ?_
        · intro w hw
          clear hw
          go_simp
        try simp only [Act.put, List.setIfInBounds_toArray, List.set_cons_zero, List.set_cons_succ]
        refine LooseD.reads (.pointer (some ⟨b, k * 4, none⟩)) rfl rfl ?_ ?_
        · intro w hw
          clear hw
          go_simp
        try simp only [Act.put, List.setIfInBounds_toArray, List.set_cons_zero, List.set_cons_succ]
        refine LooseD.reads (.pointer (some ⟨b, k * 4, none⟩)) rfl rfl ?_ ?_
        · intro w hw
          clear hw
          go_simp
        try simp only [Act.put, List.setIfInBounds_toArray, List.set_cons_zero, List.set_cons_succ]
        refine LooseD.reads (.string nm) rfl rfl ?_ ?_
        · intro w hw
          obtain ⟨y0, y1, y2, y3⟩ := HY.out w (HA.out.below.trans (hw.1.mono HA.out.below.size))
          clear hw
          go_simp
        try simp only [Act.put, List.setIfInBounds_toArray, List.set_cons_zero, List.set_cons_succ]
        refine LooseD.gives (.int .i64 fp) 15 #[.agg #[.string ss, .slice (some ⟨b, 0, none⟩) n cap], .string nm] rfl rfl ?_ (fun w hw hH => HK1.out w (HA.out.below.trans (hw.1.mono HA.out.below.size))) ?_
        · intro w hw
          clear hw
          go_simp
        try simp only [Act.put, List.setIfInBounds_toArray, List.set_cons_zero, List.set_cons_succ]
        refine LooseD.reads (.int .i64 k) rfl rfl ?_ ?_
        · intro w hw
          clear hw
          go_simp
        try simp only [Act.put, List.setIfInBounds_toArray, List.set_cons_zero, List.set_cons_succ]
        refine LooseD.reads (.bool true) rfl rfl ?_ ?_
        · intro w hw
          clear hw
          go_simp
        try simp only [Act.put, List.setIfInBounds_toArray, List.set_cons_zero, List.set_cons_succ]
        refine LooseD.done ?_
        intro w2 hw2 _
        have HA2 := Lib.hid (HA.out.under hw2.1)
        clear hw2
        obtain ⟨y0, y1, y2, y3⟩ := HY.out w2 HA2.out.below
        have z0 := cell_of_row _ _ 0 _ _ (0, 0) HA2.out.box
        have z1 := cell_of_row _ _ 1 _ _ (0, 0) HA2.out.box
        have HOW := Lib.hid (show (w2.alloc (.cells #[.int .i64 9, .int .i64 k, .string nm] 50)).ownsRow (W.heap.size + 1) 50 3 (.slice Ap np cp) np (cellsP ps) by have := HA2.out.row.alloc (.cells #[.int .i64 9, .int .i64 k, .string nm] 50); rwa [← HNP.out] at this)
        have HNEW := Lib.hid (Gn.row_new w2 [.int .i64 9, .int .i64 k, .string nm] 50 w2.heap.size rfl)
        have HAL := Lib.hid (HA2.out.under ((Below.refl w2.heap.size w2).alloc (Nat.le_refl _) (.cells #[.int .i64 9, .int .i64 k, .string nm] 50)))
        go_wp2_with (at_builtin; refine wpList_append_lies _ rfl _ _ 44 rfl (W.heap.size + 1) 50 i9 _ 3 32 Try.underlying44 hi9 hz0 hz1 hz2 rfl (by decide) (.slice Ap np cp) np (cellsP ps) rfl HOW.out ⟨w2.heap.size, 0, none⟩ 1 1 [.int .i64 9, .int .i64 k, .string nm] rfl rfl HNEW.out (by simp [Value.oneCell']) (by decide) (by unfold maxLen; omega) (by omega) (by have := Gn.heap_lt HAL.out.box; simp at this ⊢; omega) _ rfl ?_; intro gq cap' w4 hown4 hgrow4 hat4 hlt4; have H4 := Lib.hid (HAL.out.snoc (9, k, r.1) (v' := .slice (some ⟨gq, 0, none⟩) (np + 1) cap') (by rw [← HNP.out]; have h7 := hown4; rw [HNM.out] at h7; exact h7) hgrow4); have HG4 := Lib.hid hgrow4; have HT4 := Lib.hid hat4; clear y0 y1 y2 y3 z0 z1; obtain ⟨y0, y1, y2, y3⟩ := HY.out w4 H4.out.below; have z0 := cell_of_row _ _ 0 _ _ (0, 0) H4.out.box; have z1 := cell_of_row _ _ 1 _ _ (0, 0) H4.out.box; clear hown4 hgrow4 hat4 hlt4)
        have hfk : fp ≠ (k : Int) := by omega
        rw [if_neg hfk] at HRP
        obtain ⟨p1, hp1⟩ : ∃ p1 : List Prb, p1 = ps ++ [(9, (k : Int), r.1)] := ⟨_, rfl⟩
        have HPP := Lib.hid (show rulesGo rs 0 (rs.take (k + 1)) = p1 ++ noneP rs k (onceP bd) by rw [HTK.out, HRP.out, hp1, List.append_assoc])
        have hnq : p1.length = np + 1 := by rw [hp1, HNP.out, List.length_append]; rfl
        have HAQ := Lib.hid (show CkQ W #[.string ss, .slice (some ⟨b, 0, none⟩) n cap] (.slice (some ⟨gq, 0, none⟩) (np + 1) cap') p1 w4 by rw [hp1]; exact H4.out)
        have hnpl : np + 1 ≤ 1073742849 := by omega
        clear HA HA2 HK1 hp1 HTK HRP HNP HPS hpl HNM H4 HG4 HT4 HOW HNEW HAL
        refine (HRF.out _ HAQ.out.below).mono ?_
        rintro e w5 ⟨v5, rfl, ho5, b5⟩
        have HA5 := Lib.hid (HAQ.out.under b5)
        have hown5 := Gn.own_lt HAQ.out.row
        have hlt5 := b5.size
        have hms6 := NmsAt.of_own rfl ho5
        have hob6 := Gn.own_block ho5
        have hcap6 : ∃ A6 c6, v5 = .slice A6 bd.length c6 ∧ bd.length ≤ c6 := by
          rcases ho5.2 with ⟨h7, h8⟩ | ⟨g, cp9, cur, h7, _, _, h8, _⟩
          · exact ⟨none, 0, by rw [h7, h8], by omega⟩
          · exact ⟨_, cp9, h7, h8⟩
        obtain ⟨A6, c6, rfl, hc6⟩ := hcap6
        obtain ⟨A7, c7, b6', h7, m3, m4⟩ := hms6
        injection h7 with h71 h72 h73
        subst h71
        subst h73
        obtain ⟨nl, hnl⟩ : ∃ nl, nl = bd.length := ⟨_, rfl⟩
        rw [← hnl] at m3 hc6 s3 ⊢
        have HNL := Lib.hid hnl
        have HM3 := Lib.hid m3
        have HM4 := Lib.hid m4
        have HSEP := Lib.hid (show ∀ g, (Value.slice (some ⟨gq, 0, none⟩) (np + 1) cap').ownBlock = some g → 0 < nl → g ≠ b6' from fun g hg h0 e => by
          have h1 := hown5 g hg
          have h2 := hob6 b6' (by rw [(m3 h0).1]; rfl)
          omega)
        clear hnl m3 m4 ho5 b5 hown5 hob6 hlt5 y0 y1 y2 y3 z0 z1 h72
        go_wp2_with fail
        go_loopw [3, 6] (fun pv i wx => ∃ (j : Nat), j ≤ nl ∧ i = .int .i64 j ∧ CkQ W #[.string ss, .slice (some ⟨b, 0, none⟩) n cap] pv (p1 ++ noneP rs k (onceP (bd.take j))) wx ∧ (∀ i (h : i < bd.length), wx.cell? ⟨b6', i, none⟩ = some (strV bd[i])) ∧ (∀ g, pv.ownBlock = some g → 0 < nl → g ≠ b6') ∧ (0 < nl → b6' < wx.heap.size)) (fun _ i _ => nl - (intOf i).toNat)
        case atStart => exact ⟨0, Nat.zero_le _, rfl, by have := HA5.out; rw [List.take_zero, show noneP rs k (onceP []) = [] from rfl, List.append_nil]; exact this, HM4.out, HSEP.out, fun h0 => (HM3.out h0).2⟩
        case round =>
          obtain ⟨j, hj, rfl, hA, hcl, hsep, hbl6⟩ := hrel
          obtain ⟨Aq, cq, hpv⟩ := Gn.slice_of hA.row
          subst hpv
          obtain ⟨p2, hp2⟩ : ∃ p2, p2 = p1 ++ noneP rs k (onceP (bd.take j)) := ⟨_, rfl⟩
          have hp2l : p2.length ≤ 1075000000 := by
            have h5 := noneP_len rs k (onceP (bd.take j))
            have h6 := onceP_le (bd.take j)
            have h7 : (bd.take j).length ≤ nl := by rw [List.length_take]; omega
            rw [hp2, List.length_append]
            omega
          rw [← hp2] at hA hsep ⊢
          have HP2 := Lib.hid hp2
          obtain ⟨nq, hnq2⟩ : ∃ nq, nq = p2.length := ⟨_, rfl⟩
          have HNQ := Lib.hid hnq2
          rw [← hnq2] at hp2l hsep ⊢
          have HA := Lib.hid (show CkQ W #[.string ss, .slice (some ⟨b, 0, none⟩) n cap] (.slice Aq nq cq) p2 wr by rw [hnq2]; exact hA)
          have HCL := Lib.hid hcl
          have HSEP2 := Lib.hid hsep
          have HBL6 := Lib.hid hbl6
          clear hp2 hnq2 hA hcl hsep hbl6
          by_cases hjn : j < nl
          · have hjn2 : (j : Int) < (nl : Int) := by omega
            have hjl : j < bd.length := by rw [← HNL.out]; exact hjn
            obtain ⟨rfl, hb6l⟩ := HM3.out (by omega)
            have HYX := Lib.hid (show ∀ w, Below wr.heap.size wr w → ∀ i (h : i < bd.length), w.cell? ⟨b6', i, none⟩ = some (strV bd[i]) from fun w bw i hi => (bw.cell (p := ⟨b6', i, none⟩) (HBL6.out (by omega))).trans (HCL.out i hi))
            have HTN := Lib.hid (miss_step rs k bd j hjl)
            have HYJ := Lib.hid (fun w bw => HYX.out w bw j hjl)
            obtain ⟨x, hx⟩ : ∃ x, x = bd[j] := ⟨_, rfl⟩
            rw [← hx] at HTN HYJ
            have HKX := Lib.hid (fun w bw => HKO.out x w bw)
            have HIN := Lib.hid (fun w (bw : Below wr.heap.size wr w) => in_any (bd.take j) (by rw [List.length_take]; omega) x w (.slice (some ⟨b6', 0, none⟩) j c6) ⟨some ⟨b6', 0, none⟩, c6, b6', by rw [List.length_take, Nat.min_eq_left (by omega)], fun _ => ⟨rfl, Nat.lt_of_lt_of_le (HBL6.out (by omega)) bw.size⟩, fun i hi => by rw [List.getElem_take]; exact HYX.out w bw i (by rw [List.length_take] at hi; omega)⟩)
            obtain ⟨xm, hxm⟩ : ∃ xm, xm = Lx.mk x := ⟨_, rfl⟩
            unfold strV at HYJ
            rw [← hxm] at HYJ HKX HIN
            have HNM := Lib.hid hxm
            obtain ⟨fx, hfx⟩ : ∃ fx, fx = firstP rs x := ⟨_, rfl⟩
            rw [← hfx] at HKX HTN
            obtain ⟨bi, hbi⟩ : ∃ bi, bi = decide (x ∈ bd.take j) := ⟨_, rfl⟩
            rw [← hbi] at HIN
            have hfx0 := first_low rs x
            rw [← hfx] at hfx0
            clear hx hxm hfx
            by_cases hf1 : fx = -1
            · have e2 : decide ((fx : Int) < 0) = true := by rw [hf1]; rfl
              subst hf1
              have hcj : (j : Int) ≤ (c6 : Int) := by omega
              cases bi with
              | false =>
                rw [if_pos ⟨rfl, by simpa using hbi.symm⟩] at HTN
                have HTP := Lib.hid (show p1 ++ noneP rs k (onceP (bd.take (j + 1))) = p2 ++ [(10, (k : Int), x)] by rw [HTN.out, ← List.append_assoc, ← HP2.out])
                clear hbi
                go_wp2_with fail
                refine LooseD.region_loose (fun w => Below wr.heap.size wr w ∧ w.heap[W.heap.size]? = some (.cells #[.string ss, .slice (some ⟨b, 0, none⟩) n cap] 30 (0, 0))) _ _ (by kernel_rfl) (by kernel_rfl)
                  (LooseD.waits (D := [[], [], [], [], [], [], [], [], [], [], [], [], [], [], [], [], [], []]) (by kernel_rfl))
                  (LooseD.stays (ts := [none, none, none, none, none, some (.is (.int .i64 (-1))), none, none, none, none, none, none, none, none, none, some (.is (.bool false)), none, none]) (fun w w' h b => ⟨h.1.trans (b.mono h.1.size), (b.block _ (Gn.heap_lt h.2)).trans h.2⟩) (.none (.none (.none (.none (.none (.is (.none (.none (.none (.none (.none (.none (.none (.none (.none (.is (.none (.none .nil)))))))))))))))))))
                  ⟨(Below.refl _ _).drew, HA.out.box⟩ ?_
                refine LooseD.reads (.agg #[.string ss, .slice (some ⟨b, 0, none⟩) n cap]) rfl rfl ?_ ?_
                · intro w hw
                  have q0 := cell_of_row _ _ 0 _ _ (0, 0) hw.2
                  have q1 := cell_of_row _ _ 1 _ _ (0, 0) hw.2
                  clear hw
                  go_simp
                try simp only [Act.put, List.setIfInBounds_toArray, List.set_cons_zero, List.set_cons_succ]
                refine LooseD.reads (.slice (some ⟨b6', 0, none⟩) nl c6) rfl rfl ?_ ?_
                · intro w hw
                  clear hw
                  go_simp
                try simp only [Act.put, List.setIfInBounds_toArray, List.set_cons_zero, List.set_cons_succ]
                refine LooseD.reads (.int .i64 j) rfl rfl ?_ ?_
                · intro w hw
                  clear hw
                  go_simp
                try simp only [Act.put, List.setIfInBounds_toArray, List.set_cons_zero, List.set_cons_succ]
                refine LooseD.reads (.pointer (some ⟨b6', j, none⟩)) rfl rfl ?_ ?_
                · intro w hw
                  clear hw
                  go_simp
                try simp only [Act.put, List.setIfInBounds_toArray, List.set_cons_zero, List.set_cons_succ]
                refine LooseD.reads (.string xm) rfl rfl ?_ ?_
                · intro w hw
                  have yj := HYJ.out w hw.1
                  clear hw
                  go_simp
                try simp only [Act.put, List.setIfInBounds_toArray, List.set_cons_zero, List.set_cons_succ]
                refine LooseD.gives (.int .i64 (-1)) 15 #[.agg #[.string ss, .slice (some ⟨b, 0, none⟩) n cap], .string xm] rfl rfl ?_ (fun w hw hH => HKX.out w (HA.out.below.trans (hw.1.mono HA.out.below.size))) ?_
                · intro w hw
                  clear hw
                  go_simp
                try simp only [Act.put, List.setIfInBounds_toArray, List.set_cons_zero, List.set_cons_succ]
                refine LooseD.reads (.bool true) rfl rfl ?_ ?_
                · intro w hw
                  clear hw
                  go_simp
                try simp only [Act.put, List.setIfInBounds_toArray, List.set_cons_zero, List.set_cons_succ]
                refine LooseD.reads (.bool true) rfl rfl ?_ ?_
                · intro w hw
                  clear hw
                  go_simp
                try simp only [Act.put, List.setIfInBounds_toArray, List.set_cons_zero, List.set_cons_succ]
                refine LooseD.reads (.slice (some ⟨b6', 0, none⟩) nl c6) rfl rfl ?_ ?_
                · intro w hw
                  clear hw
                  go_simp
                try simp only [Act.put, List.setIfInBounds_toArray, List.set_cons_zero, List.set_cons_succ]
                refine LooseD.reads (.int .i64 j) rfl rfl ?_ ?_
                · intro w hw
                  clear hw
                  go_simp
                try simp only [Act.put, List.setIfInBounds_toArray, List.set_cons_zero, List.set_cons_succ]
                refine LooseD.reads (.slice (some ⟨b6', 0, none⟩) j c6) rfl rfl ?_ ?_
                · intro w hw
                  clear hw
                  go_simp
                try simp only [Act.put, List.setIfInBounds_toArray, List.set_cons_zero, List.set_cons_succ]
                refine LooseD.reads (.slice (some ⟨b6', 0, none⟩) nl c6) rfl rfl ?_ ?_
                · intro w hw
                  clear hw
                  go_simp
                try simp only [Act.put, List.setIfInBounds_toArray, List.set_cons_zero, List.set_cons_succ]
                refine LooseD.reads (.int .i64 j) rfl rfl ?_ ?_
                · intro w hw
                  clear hw
                  go_simp
                try simp only [Act.put, List.setIfInBounds_toArray, List.set_cons_zero, List.set_cons_succ]
                refine LooseD.reads (.pointer (some ⟨b6', j, none⟩)) rfl rfl ?_ ?_
                · intro w hw
                  clear hw
                  go_simp
                try simp only [Act.put, List.setIfInBounds_toArray, List.set_cons_zero, List.set_cons_succ]
                refine LooseD.reads (.string xm) rfl rfl ?_ ?_
                · intro w hw
                  have yj := HYJ.out w hw.1
                  clear hw
                  go_simp
                try simp only [Act.put, List.setIfInBounds_toArray, List.set_cons_zero, List.set_cons_succ]
                refine LooseD.gives (.bool false) 29 #[.slice (some ⟨b6', 0, none⟩) j c6, .string xm] rfl rfl ?_ (fun w hw hH => (HIN.out w hw.1).mono fun e w' h => ⟨h.1, by rw [h.2]; exact Below.refl _ _⟩) ?_
                · intro w hw
                  clear hw
                  go_simp
                try simp only [Act.put, List.setIfInBounds_toArray, List.set_cons_zero, List.set_cons_succ]
                refine LooseD.reads (.bool true) rfl rfl ?_ ?_
                · intro w hw
                  clear hw
                  go_simp
                try simp only [Act.put, List.setIfInBounds_toArray, List.set_cons_zero, List.set_cons_succ]
                refine LooseD.reads (.bool true) rfl rfl ?_ ?_
                · intro w hw
                  clear hw
                  go_simp
                try simp only [Act.put, List.setIfInBounds_toArray, List.set_cons_zero, List.set_cons_succ]
                refine LooseD.done ?_
                intro w6 hw6 _
                have HA6 := Lib.hid (HA.out.under hw6.1)
                have HW6 := Lib.hid hw6.1
                clear hw6
                have yj := HYJ.out w6 HW6.out
                have HOW := Lib.hid (show (w6.alloc (.cells #[.int .i64 10, .int .i64 k, .string xm] 50)).ownsRow (W.heap.size + 1) 50 3 (.slice Aq nq cq) nq (cellsP p2) by have := HA6.out.row.alloc (.cells #[.int .i64 10, .int .i64 k, .string xm] 50); rwa [← HNQ.out] at this)
                have HNEW := Lib.hid (Gn.row_new w6 [.int .i64 10, .int .i64 k, .string xm] 50 w6.heap.size rfl)
                have HAL := Lib.hid (HA6.out.under ((Below.refl w6.heap.size w6).alloc (Nat.le_refl _) (.cells #[.int .i64 10, .int .i64 k, .string xm] 50)))
                have HBL7 := Lib.hid (fun (h0 : 0 < nl) => Nat.lt_of_lt_of_le (HBL6.out h0) HW6.out.size)
                go_wp2_with (at_builtin; refine wpList_append_lies _ rfl _ _ 44 rfl (W.heap.size + 1) 50 i9 _ 3 32 Try.underlying44 hi9 hz0 hz1 hz2 rfl (by decide) (.slice Aq nq cq) nq (cellsP p2) rfl HOW.out ⟨w6.heap.size, 0, none⟩ 1 1 [.int .i64 10, .int .i64 k, .string xm] rfl rfl HNEW.out (by simp [Value.oneCell']) (by decide) (by unfold maxLen; omega) (by omega) (by have := Gn.heap_lt HAL.out.box; simp at this ⊢; omega) _ rfl ?_; intro gq cap' w4 hown4 hgrow4 hat4 hlt4; have H4 := Lib.hid (HAL.out.snoc (10, k, x) (v' := .slice (some ⟨gq, 0, none⟩) (nq + 1) cap') (by rw [← HNQ.out]; have h7 := hown4; rw [HNM.out] at h7; exact h7) hgrow4); have HG4 := Lib.hid hgrow4; have HT4 := Lib.hid hat4; clear hown4 hgrow4 hat4 hlt4)
                have hcl4 : ∀ i (h : i < bd.length), w4.cell? ⟨b6', i, none⟩ = some (strV bd[i]) := fun i hi => by
                  have h0 : 0 < nl := by omega
                  have h8 := HBL7.out h0
                  exact (Gn.cell_same ((HG4.out.block b6' (by simp; omega) (fun e => HSEP2.out b6' e.symm h0 rfl)).trans (heap_alloc_old _ _ h8)) i).trans (HYX.out w6 HW6.out i hi)
                have hsep4 : ∀ g, (Value.slice (some ⟨gq, 0, none⟩) (nq + 1) cap').ownBlock = some g → 0 < nl → g ≠ b6' := fun g hg h0 e => by
                  have hg : gq = g := by injection hg
                  subst hg
                  rcases HT4.out with h7 | h7
                  · exact HSEP2.out gq h7 h0 e
                  · have := HBL7.out h0
                    simp at h7
                    omega
                have hbl4 : 0 < nl → b6' < w4.heap.size := fun h0 => by have h8 := HG4.out.size; have := HBL7.out h0; simp at h8; omega
                have HC4 := Lib.hid hcl4
                have HS4 := Lib.hid hsep4
                have HL4 := Lib.hid hbl4
                clear hcl4 hsep4 hbl4
                go_roundw
                case rel => exact ⟨j + 1, by omega, by simp, by rw [HTP.out]; exact H4.out, HC4.out, HS4.out, HL4.out⟩
                case measure => simp [intOf]; omega
              | true =>
                rw [if_neg (fun h => h.2 (by simpa using hbi.symm))] at HTN
                have HTP := Lib.hid (show p1 ++ noneP rs k (onceP (bd.take (j + 1))) = p2 by rw [HTN.out, ← HP2.out])
                clear hbi
                go_wp2_with fail
                refine LooseD.region_loose (fun w => Below wr.heap.size wr w ∧ w.heap[W.heap.size]? = some (.cells #[.string ss, .slice (some ⟨b, 0, none⟩) n cap] 30 (0, 0))) _ _ (by kernel_rfl) (by kernel_rfl)
                  (LooseD.waits (D := [[], [], [], [], [], [], [], [], [], [], [], [], [], [], [], [], [], []]) (by kernel_rfl))
                  (LooseD.stays (ts := [none, none, none, none, none, some (.is (.int .i64 (-1))), none, none, none, none, none, none, none, none, none, some (.is (.bool true)), none, none]) (fun w w' h b => ⟨h.1.trans (b.mono h.1.size), (b.block _ (Gn.heap_lt h.2)).trans h.2⟩) (.none (.none (.none (.none (.none (.is (.none (.none (.none (.none (.none (.none (.none (.none (.none (.is (.none (.none .nil)))))))))))))))))))
                  ⟨(Below.refl _ _).drew, HA.out.box⟩ ?_
                refine LooseD.reads (.agg #[.string ss, .slice (some ⟨b, 0, none⟩) n cap]) rfl rfl ?_ ?_
                · intro w hw
                  have q0 := cell_of_row _ _ 0 _ _ (0, 0) hw.2
                  have q1 := cell_of_row _ _ 1 _ _ (0, 0) hw.2
                  clear hw
                  go_simp
                try simp only [Act.put, List.setIfInBounds_toArray, List.set_cons_zero, List.set_cons_succ]
                refine LooseD.reads (.slice (some ⟨b6', 0, none⟩) nl c6) rfl rfl ?_ ?_
                · intro w hw
                  clear hw
                  go_simp
                try simp only [Act.put, List.setIfInBounds_toArray, List.set_cons_zero, List.set_cons_succ]
                refine LooseD.reads (.int .i64 j) rfl rfl ?_ ?_
                · intro w hw
                  clear hw
                  go_simp
                try simp only [Act.put, List.setIfInBounds_toArray, List.set_cons_zero, List.set_cons_succ]
                refine LooseD.reads (.pointer (some ⟨b6', j, none⟩)) rfl rfl ?_ ?_
                · intro w hw
                  clear hw
                  go_simp
                try simp only [Act.put, List.setIfInBounds_toArray, List.set_cons_zero, List.set_cons_succ]
                refine LooseD.reads (.string xm) rfl rfl ?_ ?_
                · intro w hw
                  have yj := HYJ.out w hw.1
                  clear hw
                  go_simp
                try simp only [Act.put, List.setIfInBounds_toArray, List.set_cons_zero, List.set_cons_succ]
                refine LooseD.gives (.int .i64 (-1)) 15 #[.agg #[.string ss, .slice (some ⟨b, 0, none⟩) n cap], .string xm] rfl rfl ?_ (fun w hw hH => HKX.out w (HA.out.below.trans (hw.1.mono HA.out.below.size))) ?_
                · intro w hw
                  clear hw
                  go_simp
                try simp only [Act.put, List.setIfInBounds_toArray, List.set_cons_zero, List.set_cons_succ]
                refine LooseD.reads (.bool true) rfl rfl ?_ ?_
                · intro w hw
                  clear hw
                  go_simp
                try simp only [Act.put, List.setIfInBounds_toArray, List.set_cons_zero, List.set_cons_succ]
                refine LooseD.reads (.bool true) rfl rfl ?_ ?_
                · intro w hw
                  clear hw
                  go_simp
                try simp only [Act.put, List.setIfInBounds_toArray, List.set_cons_zero, List.set_cons_succ]
                refine LooseD.reads (.slice (some ⟨b6', 0, none⟩) nl c6) rfl rfl ?_ ?_
                · intro w hw
                  clear hw
                  go_simp
                try simp only [Act.put, List.setIfInBounds_toArray, List.set_cons_zero, List.set_cons_succ]
                refine LooseD.reads (.int .i64 j) rfl rfl ?_ ?_
                · intro w hw
                  clear hw
                  go_simp
                try simp only [Act.put, List.setIfInBounds_toArray, List.set_cons_zero, List.set_cons_succ]
                refine LooseD.reads (.slice (some ⟨b6', 0, none⟩) j c6) rfl rfl ?_ ?_
                · intro w hw
                  clear hw
                  go_simp
                try simp only [Act.put, List.setIfInBounds_toArray, List.set_cons_zero, List.set_cons_succ]
                refine LooseD.reads (.slice (some ⟨b6', 0, none⟩) nl c6) rfl rfl ?_ ?_
                · intro w hw
                  clear hw
                  go_simp
                try simp only [Act.put, List.setIfInBounds_toArray, List.set_cons_zero, List.set_cons_succ]
                refine LooseD.reads (.int .i64 j) rfl rfl ?_ ?_
                · intro w hw
                  clear hw
                  go_simp
                try simp only [Act.put, List.setIfInBounds_toArray, List.set_cons_zero, List.set_cons_succ]
                refine LooseD.reads (.pointer (some ⟨b6', j, none⟩)) rfl rfl ?_ ?_
                · intro w hw
                  clear hw
                  go_simp
                try simp only [Act.put, List.setIfInBounds_toArray, List.set_cons_zero, List.set_cons_succ]
                refine LooseD.reads (.string xm) rfl rfl ?_ ?_
                · intro w hw
                  have yj := HYJ.out w hw.1
                  clear hw
                  go_simp
                try simp only [Act.put, List.setIfInBounds_toArray, List.set_cons_zero, List.set_cons_succ]
                refine LooseD.gives (.bool true) 29 #[.slice (some ⟨b6', 0, none⟩) j c6, .string xm] rfl rfl ?_ (fun w hw hH => (HIN.out w hw.1).mono fun e w' h => ⟨h.1, by rw [h.2]; exact Below.refl _ _⟩) ?_
                · intro w hw
                  clear hw
                  go_simp
                try simp only [Act.put, List.setIfInBounds_toArray, List.set_cons_zero, List.set_cons_succ]
                refine LooseD.reads (.bool false) rfl rfl ?_ ?_
                · intro w hw
                  clear hw
                  go_simp
                try simp only [Act.put, List.setIfInBounds_toArray, List.set_cons_zero, List.set_cons_succ]
                refine LooseD.reads (.bool false) rfl rfl ?_ ?_
                · intro w hw
                  clear hw
                  go_simp
                try simp only [Act.put, List.setIfInBounds_toArray, List.set_cons_zero, List.set_cons_succ]
                refine LooseD.done ?_
                intro w6 hw6 _
                have HA6 := Lib.hid (HA.out.under hw6.1)
                have HW6 := Lib.hid hw6.1
                clear hw6
                have hbl7 : 0 < nl → b6' < w6.heap.size := fun h0 => Nat.lt_of_lt_of_le (HBL6.out h0) HW6.out.size
                have HB7 := Lib.hid hbl7
                clear hbl7
                go_wp2_with fail
                go_roundw
                case rel => exact ⟨j + 1, by omega, by simp, by rw [HTP.out]; exact HA6.out, fun i hi => HYX.out _ HW6.out i hi, HSEP2.out, HB7.out⟩
                case measure => simp [intOf]; omega
            · have e2 : decide ((fx : Int) < 0) = false := by rw [decide_eq_false]; omega
              rw [if_neg (fun h => hf1 h.1)] at HTN
              have HTP := Lib.hid (show p1 ++ noneP rs k (onceP (bd.take (j + 1))) = p2 by rw [HTN.out, ← HP2.out])
              clear hbi
              go_wp2_with fail
              refine LooseD.region_loose (fun w => Below wr.heap.size wr w ∧ w.heap[W.heap.size]? = some (.cells #[.string ss, .slice (some ⟨b, 0, none⟩) n cap] 30 (0, 0))) _ _ (by kernel_rfl) (by kernel_rfl)
                (LooseD.waits (D := [[], [], [], [], [], [], [], [], [], [], [], [], [], [], [], [], [], []]) (by kernel_rfl))
                (LooseD.stays (ts := [none, none, none, none, none, some (.is (.int .i64 fx)), none, none, none, none, none, none, none, none, none, none, none, none]) (fun w w' h b => ⟨h.1.trans (b.mono h.1.size), (b.block _ (Gn.heap_lt h.2)).trans h.2⟩) (.none (.none (.none (.none (.none (.is (.none (.none (.none (.none (.none (.none (.none (.none (.none (.none (.none (.none .nil)))))))))))))))))))
                ⟨(Below.refl _ _).drew, HA.out.box⟩ ?_
              refine LooseD.reads (.agg #[.string ss, .slice (some ⟨b, 0, none⟩) n cap]) rfl rfl ?_ ?_
              · intro w hw
                have q0 := cell_of_row _ _ 0 _ _ (0, 0) hw.2
                have q1 := cell_of_row _ _ 1 _ _ (0, 0) hw.2
                clear hw
                go_simp
              try simp only [Act.put, List.setIfInBounds_toArray, List.set_cons_zero, List.set_cons_succ]
              refine LooseD.reads (.slice (some ⟨b6', 0, none⟩) nl c6) rfl rfl ?_ ?_
              · intro w hw
                clear hw
                go_simp
              try simp only [Act.put, List.setIfInBounds_toArray, List.set_cons_zero, List.set_cons_succ]
              refine LooseD.reads (.int .i64 j) rfl rfl ?_ ?_
              · intro w hw
                clear hw
                go_simp
              try simp only [Act.put, List.setIfInBounds_toArray, List.set_cons_zero, List.set_cons_succ]
              refine LooseD.reads (.pointer (some ⟨b6', j, none⟩)) rfl rfl ?_ ?_
              · intro w hw
                clear hw
                go_simp
              try simp only [Act.put, List.setIfInBounds_toArray, List.set_cons_zero, List.set_cons_succ]
              refine LooseD.reads (.string xm) rfl rfl ?_ ?_
              · intro w hw
                have yj := HYJ.out w hw.1
                clear hw
                go_simp
              try simp only [Act.put, List.setIfInBounds_toArray, List.set_cons_zero, List.set_cons_succ]
              refine LooseD.gives (.int .i64 fx) 15 #[.agg #[.string ss, .slice (some ⟨b, 0, none⟩) n cap], .string xm] rfl rfl ?_ (fun w hw hH => HKX.out w (HA.out.below.trans (hw.1.mono HA.out.below.size))) ?_
              · intro w hw
                clear hw
                go_simp
              try simp only [Act.put, List.setIfInBounds_toArray, List.set_cons_zero, List.set_cons_succ]
              refine LooseD.reads (.bool false) rfl rfl ?_ ?_
              · intro w hw
                clear hw
                go_simp
              try simp only [Act.put, List.setIfInBounds_toArray, List.set_cons_zero, List.set_cons_succ]
              refine LooseD.reads (.bool false) rfl rfl ?_ ?_
              · intro w hw
                clear hw
                go_simp
              try simp only [Act.put, List.setIfInBounds_toArray, List.set_cons_zero, List.set_cons_succ]
              refine LooseD.unwanted rfl ?_
              try simp only [Act.put, List.setIfInBounds_toArray, List.set_cons_zero, List.set_cons_succ]
              refine LooseD.unwanted rfl ?_
              try simp only [Act.put, List.setIfInBounds_toArray, List.set_cons_zero, List.set_cons_succ]
              refine LooseD.unwanted rfl ?_
              try simp only [Act.put, List.setIfInBounds_toArray, List.set_cons_zero, List.set_cons_succ]
              refine LooseD.unwanted rfl ?_
              try simp only [Act.put, List.setIfInBounds_toArray, List.set_cons_zero, List.set_cons_succ]
              refine LooseD.unwanted rfl ?_
              try simp only [Act.put, List.setIfInBounds_toArray, List.set_cons_zero, List.set_cons_succ]
              refine LooseD.unwanted rfl ?_
              try simp only [Act.put, List.setIfInBounds_toArray, List.set_cons_zero, List.set_cons_succ]
              refine LooseD.unwanted rfl ?_
              try simp only [Act.put, List.setIfInBounds_toArray, List.set_cons_zero, List.set_cons_succ]
              refine LooseD.unwanted rfl ?_
              try simp only [Act.put, List.setIfInBounds_toArray, List.set_cons_zero, List.set_cons_succ]
              refine LooseD.unwanted rfl ?_
              try simp only [Act.put, List.setIfInBounds_toArray, List.set_cons_zero, List.set_cons_succ]
              refine LooseD.reads (.bool false) rfl rfl ?_ ?_
              · intro w hw
                clear hw
                go_simp
              try simp only [Act.put, List.setIfInBounds_toArray, List.set_cons_zero, List.set_cons_succ]
              refine LooseD.done ?_
              intro w6 hw6 _
              have HA6 := Lib.hid (HA.out.under hw6.1)
              have HW6 := Lib.hid hw6.1
              clear hw6
              have hbl7 : 0 < nl → b6' < w6.heap.size := fun h0 => Nat.lt_of_lt_of_le (HBL6.out h0) HW6.out.size
              have HB7 := Lib.hid hbl7
              clear hbl7
              go_wp2_with fail
              go_roundw
              case rel => exact ⟨j + 1, by omega, by simp, by rw [HTP.out]; exact HA6.out, fun i hi => HYX.out _ HW6.out i hi, HSEP2.out, HB7.out⟩
              case measure => simp [intOf]; omega
          · have hje : nl = j := by omega
            subst hje
            have hjn2 : ¬ ((nl : Nat) : Int) < ((nl : Nat) : Int) := by omega
            have HFIN := Lib.hid (show rulesGo rs 0 (rs.take (k + 1)) = p2 by rw [HPP.out, HP2.out, HNL.out, List.take_length])
            go_wp2_with fail
            go_roundw
            case rel => exact ⟨k + 1, by omega, by simp, by rw [HFIN.out]; exact HA.out⟩
            case measure => simp [intOf]; omega
      · have e1 : decide (fp < (k : Int)) = false := decide_eq_false hf
        go_wp2_with fail
        refine LooseD.region_loose (fun w => Below wr.heap.size wr w ∧ w.heap[W.heap.size]? = some (.cells #[.string ss, .slice (some ⟨b, 0, none⟩) n cap] 30 (0, 0))) _ _ (by kernel_rfl) (by kernel_rfl)
          (LooseD.waits (D := [[], [], [], [], [], [], [], [], [], []]) (by kernel_rfl))
          (LooseD.stays (ts := [none, none, none, none, none, none, none, some (.is (.int .i64 fp)), none, none]) (fun w w' h b => ⟨h.1.trans (b.mono h.1.size), (b.block _ (Gn.heap_lt h.2)).trans h.2⟩) (.none (.none (.none (.none (.none (.none (.none (.is (.none (.none .nil)))))))))))
          ⟨(Below.refl _ _).drew, HA.out.box⟩ ?_
        refine LooseD.reads (.agg #[.string ss, .slice (some ⟨b, 0, none⟩) n cap]) rfl rfl ?_ ?_
        · intro w hw
          have q0 := cell_of_row _ _ 0 _ _ (0, 0) hw.2
          have q1 := cell_of_row _ _ 1 _ _ (0, 0) hw.2
          clear hw
          go_simp
        try simp only [Act.put, List.setIfInBounds_toArray, List.set_cons_zero, List.set_cons_succ]
        refine LooseD.reads (.pointer (some ⟨W.heap.size, 1, none⟩)) rfl rfl ?_ ?_
        · intro w hw
          clear hw
          go_simp
        try simp only [Act.put, List.setIfInBounds_toArray, List.set_cons_zero, List.set_cons_succ]
        refine LooseD.reads (.slice (some ⟨b, 0, none⟩) n cap) rfl rfl ?_ ?_
        · intro w hw
          have q0 := cell_of_row _ _ 0 _ _ (0, 0) hw.2
          have q1 := cell_of_row _ _ 1 _ _ (0, 0) hw.2
          clear hw
          go_simp
        try simp only [Act.put, List.setIfInBounds_toArray, List.set_cons_zero, List.set_cons_succ]
        refine LooseD.reads (.int .i64 k) rfl rfl ?_ ?_
        · intro w hw
          clear hw
          go_simp
        try simp only [Act.put, List.setIfInBounds_toArray, List.set_cons_zero, List.set_cons_succ]
        refine LooseD.reads (.pointer (some ⟨b, k * 4, none⟩)) rfl rfl ?_ ?_
        · intro w hw
          clear hw
          go_simp
        try simp only [Act.put, List.setIfInBounds_toArray, List.set_cons_zero, List.set_cons_succ]
        refine LooseD.reads (.pointer (some ⟨b, k * 4, none⟩)) rfl rfl ?_ ?_
        · intro w hw
          clear hw
          go_simp
        try simp only [Act.put, List.setIfInBounds_toArray, List.set_cons_zero, List.set_cons_succ]
        refine LooseD.reads (.string nm) rfl rfl ?_ ?_
        · intro w hw
          obtain ⟨y0, y1, y2, y3⟩ := HY.out w (HA.out.below.trans (hw.1.mono HA.out.below.size))
          clear hw
          go_simp
        try simp only [Act.put, List.setIfInBounds_toArray, List.set_cons_zero, List.set_cons_succ]
        refine LooseD.gives (.int .i64 fp) 15 #[.agg #[.string ss, .slice (some ⟨b, 0, none⟩) n cap], .string nm] rfl rfl ?_ (fun w hw hH => HK1.out w (HA.out.below.trans (hw.1.mono HA.out.below.size))) ?_
        · intro w hw
          clear hw
          go_simp
        try simp only [Act.put, List.setIfInBounds_toArray, List.set_cons_zero, List.set_cons_succ]
        refine LooseD.reads (.int .i64 k) rfl rfl ?_ ?_
        · intro w hw
          clear hw
          go_simp
        try simp only [Act.put, List.setIfInBounds_toArray, List.set_cons_zero, List.set_cons_succ]
        refine LooseD.reads (.bool false) rfl rfl ?_ ?_
        · intro w hw
          clear hw
          go_simp
        try simp only [Act.put, List.setIfInBounds_toArray, List.set_cons_zero, List.set_cons_succ]
        refine LooseD.done ?_
        intro w2 hw2 _
        have HA2 := Lib.hid (HA.out.under hw2.1)
        clear hw2
        have hfk : fp = (k : Int) := by have := HFS.out; omega
        rw [if_pos hfk, List.nil_append] at HRP
        obtain ⟨p1, hp1⟩ : ∃ p1 : List Prb, p1 = ps := ⟨_, rfl⟩
        have HPP := Lib.hid (show rulesGo rs 0 (rs.take (k + 1)) = p1 ++ noneP rs k (onceP bd) by rw [HTK.out, HRP.out, hp1])
        have hnq : p1.length = np := by rw [hp1, HNP.out]
        have HAQ := Lib.hid (show CkQ W #[.string ss, .slice (some ⟨b, 0, none⟩) n cap] (.slice Ap np cp) p1 w2 by rw [hp1]; exact HA2.out)
        have hnpl : np ≤ 1073742849 := by omega
        clear HA HA2 HK1 hp1 HTK HRP HNP HPS hpl z0 z1 HNM
        obtain ⟨y0, y1, y2, y3⟩ := HY.out w2 HAQ.out.below
        have z0 := cell_of_row _ _ 0 _ _ (0, 0) HAQ.out.box
        have z1 := cell_of_row _ _ 1 _ _ (0, 0) HAQ.out.box
        go_wp2_with fail
        refine (HRF.out _ HAQ.out.below).mono ?_
        rintro e w5 ⟨v5, rfl, ho5, b5⟩
        have HA5 := Lib.hid (HAQ.out.under b5)
        have hown5 := Gn.own_lt HAQ.out.row
        have hlt5 := b5.size
        have hms6 := NmsAt.of_own rfl ho5
        have hob6 := Gn.own_block ho5
        have hcap6 : ∃ A6 c6, v5 = .slice A6 bd.length c6 ∧ bd.length ≤ c6 := by
          rcases ho5.2 with ⟨h7, h8⟩ | ⟨g, cp9, cur, h7, _, _, h8, _⟩
          · exact ⟨none, 0, by rw [h7, h8], by omega⟩
          · exact ⟨_, cp9, h7, h8⟩
        obtain ⟨A6, c6, rfl, hc6⟩ := hcap6
        obtain ⟨A7, c7, b6', h7, m3, m4⟩ := hms6
        injection h7 with h71 h72 h73
        subst h71
        subst h73
        obtain ⟨nl, hnl⟩ : ∃ nl, nl = bd.length := ⟨_, rfl⟩
        rw [← hnl] at m3 hc6 s3 ⊢
        have HNL := Lib.hid hnl
        have HM3 := Lib.hid m3
        have HM4 := Lib.hid m4
        have HSEP := Lib.hid (show ∀ g, (Value.slice Ap np cp).ownBlock = some g → 0 < nl → g ≠ b6' from fun g hg h0 e => by
          have h1 := hown5 g hg
          have h2 := hob6 b6' (by rw [(m3 h0).1]; rfl)
          omega)
        clear hnl m3 m4 ho5 b5 hown5 hob6 hlt5 y0 y1 y2 y3 z0 z1 h72
        go_wp2_with fail
        go_loopw [3, 6] (fun pv i wx => ∃ (j : Nat), j ≤ nl ∧ i = .int .i64 j ∧ CkQ W #[.string ss, .slice (some ⟨b, 0, none⟩) n cap] pv (p1 ++ noneP rs k (onceP (bd.take j))) wx ∧ (∀ i (h : i < bd.length), wx.cell? ⟨b6', i, none⟩ = some (strV bd[i])) ∧ (∀ g, pv.ownBlock = some g → 0 < nl → g ≠ b6') ∧ (0 < nl → b6' < wx.heap.size)) (fun _ i _ => nl - (intOf i).toNat)
        case atStart => exact ⟨0, Nat.zero_le _, rfl, by have := HA5.out; rw [List.take_zero, show noneP rs k (onceP []) = [] from rfl, List.append_nil]; exact this, HM4.out, HSEP.out, fun h0 => (HM3.out h0).2⟩
        case round =>
          obtain ⟨j, hj, rfl, hA, hcl, hsep, hbl6⟩ := hrel
          obtain ⟨Aq, cq, hpv⟩ := Gn.slice_of hA.row
          subst hpv
          obtain ⟨p2, hp2⟩ : ∃ p2, p2 = p1 ++ noneP rs k (onceP (bd.take j)) := ⟨_, rfl⟩
          have hp2l : p2.length ≤ 1075000000 := by
            have h5 := noneP_len rs k (onceP (bd.take j))
            have h6 := onceP_le (bd.take j)
            have h7 : (bd.take j).length ≤ nl := by rw [List.length_take]; omega
            rw [hp2, List.length_append]
            omega
          rw [← hp2] at hA hsep ⊢
          have HP2 := Lib.hid hp2
          obtain ⟨nq, hnq2⟩ : ∃ nq, nq = p2.length := ⟨_, rfl⟩
          have HNQ := Lib.hid hnq2
          rw [← hnq2] at hp2l hsep ⊢
          have HA := Lib.hid (show CkQ W #[.string ss, .slice (some ⟨b, 0, none⟩) n cap] (.slice Aq nq cq) p2 wr by rw [hnq2]; exact hA)
          have HCL := Lib.hid hcl
          have HSEP2 := Lib.hid hsep
          have HBL6 := Lib.hid hbl6
          clear hp2 hnq2 hA hcl hsep hbl6
          by_cases hjn : j < nl
          · have hjn2 : (j : Int) < (nl : Int) := by omega
            have hjl : j < bd.length := by rw [← HNL.out]; exact hjn
            obtain ⟨rfl, hb6l⟩ := HM3.out (by omega)
            have HYX := Lib.hid (show ∀ w, Below wr.heap.size wr w → ∀ i (h : i < bd.length), w.cell? ⟨b6', i, none⟩ = some (strV bd[i]) from fun w bw i hi => (bw.cell (p := ⟨b6', i, none⟩) (HBL6.out (by omega))).trans (HCL.out i hi))
            have HTN := Lib.hid (miss_step rs k bd j hjl)
            have HYJ := Lib.hid (fun w bw => HYX.out w bw j hjl)
            obtain ⟨x, hx⟩ : ∃ x, x = bd[j] := ⟨_, rfl⟩
            rw [← hx] at HTN HYJ
            have HKX := Lib.hid (fun w bw => HKO.out x w bw)
            have HIN := Lib.hid (fun w (bw : Below wr.heap.size wr w) => in_any (bd.take j) (by rw [List.length_take]; omega) x w (.slice (some ⟨b6', 0, none⟩) j c6) ⟨some ⟨b6', 0, none⟩, c6, b6', by rw [List.length_take, Nat.min_eq_left (by omega)], fun _ => ⟨rfl, Nat.lt_of_lt_of_le (HBL6.out (by omega)) bw.size⟩, fun i hi => by rw [List.getElem_take]; exact HYX.out w bw i (by rw [List.length_take] at hi; omega)⟩)
            obtain ⟨xm, hxm⟩ : ∃ xm, xm = Lx.mk x := ⟨_, rfl⟩
            unfold strV at HYJ
            rw [← hxm] at HYJ HKX HIN
            have HNM := Lib.hid hxm
            obtain ⟨fx, hfx⟩ : ∃ fx, fx = firstP rs x := ⟨_, rfl⟩
            rw [← hfx] at HKX HTN
            obtain ⟨bi, hbi⟩ : ∃ bi, bi = decide (x ∈ bd.take j) := ⟨_, rfl⟩
            rw [← hbi] at HIN
            have hfx0 := first_low rs x
            rw [← hfx] at hfx0
            clear hx hxm hfx
            by_cases hf1 : fx = -1
            · have e2 : decide ((fx : Int) < 0) = true := by rw [hf1]; rfl
              subst hf1
              have hcj : (j : Int) ≤ (c6 : Int) := by omega
              cases bi with
              | false =>
                rw [if_pos ⟨rfl, by simpa using hbi.symm⟩] at HTN
                have HTP := Lib.hid (show p1 ++ noneP rs k (onceP (bd.take (j + 1))) = p2 ++ [(10, (k : Int), x)] by rw [HTN.out, ← List.append_assoc, ← HP2.out])
                clear hbi
                go_wp2_with fail
                refine LooseD.region_loose (fun w => Below wr.heap.size wr w ∧ w.heap[W.heap.size]? = some (.cells #[.string ss, .slice (some ⟨b, 0, none⟩) n cap] 30 (0, 0))) _ _ (by kernel_rfl) (by kernel_rfl)
                  (LooseD.waits (D := [[], [], [], [], [], [], [], [], [], [], [], [], [], [], [], [], [], []]) (by kernel_rfl))
                  (LooseD.stays (ts := [none, none, none, none, none, some (.is (.int .i64 (-1))), none, none, none, none, none, none, none, none, none, some (.is (.bool false)), none, none]) (fun w w' h b => ⟨h.1.trans (b.mono h.1.size), (b.block _ (Gn.heap_lt h.2)).trans h.2⟩) (.none (.none (.none (.none (.none (.is (.none (.none (.none (.none (.none (.none (.none (.none (.none (.is (.none (.none .nil)))))))))))))))))))
                  ⟨(Below.refl _ _).drew, HA.out.box⟩ ?_
                refine LooseD.reads (.agg #[.string ss, .slice (some ⟨b, 0, none⟩) n cap]) rfl rfl ?_ ?_
                · intro w hw
                  have q0 := cell_of_row _ _ 0 _ _ (0, 0) hw.2
                  have q1 := cell_of_row _ _ 1 _ _ (0, 0) hw.2
                  clear hw
                  go_simp
                try simp only [Act.put, List.setIfInBounds_toArray, List.set_cons_zero, List.set_cons_succ]
                refine LooseD.reads (.slice (some ⟨b6', 0, none⟩) nl c6) rfl rfl ?_ ?_
                · intro w hw
                  clear hw
                  go_simp
                try simp only [Act.put, List.setIfInBounds_toArray, List.set_cons_zero, List.set_cons_succ]
                refine LooseD.reads (.int .i64 j) rfl rfl ?_ ?_
                · intro w hw
                  clear hw
                  go_simp
                try simp only [Act.put, List.setIfInBounds_toArray, List.set_cons_zero, List.set_cons_succ]
                refine LooseD.reads (.pointer (some ⟨b6', j, none⟩)) rfl rfl ?_ ?_
                · intro w hw
                  clear hw
                  go_simp
                try simp only [Act.put, List.setIfInBounds_toArray, List.set_cons_zero, List.set_cons_succ]
                refine LooseD.reads (.string xm) rfl rfl ?_ ?_
                · intro w hw
                  have yj := HYJ.out w hw.1
                  clear hw
                  go_simp
                try simp only [Act.put, List.setIfInBounds_toArray, List.set_cons_zero, List.set_cons_succ]
                refine LooseD.gives (.int .i64 (-1)) 15 #[.agg #[.string ss, .slice (some ⟨b, 0, none⟩) n cap], .string xm] rfl rfl ?_ (fun w hw hH => HKX.out w (HA.out.below.trans (hw.1.mono HA.out.below.size))) ?_
                · intro w hw
                  clear hw
                  go_simp
                try simp only [Act.put, List.setIfInBounds_toArray, List.set_cons_zero, List.set_cons_succ]
                refine LooseD.reads (.bool true) rfl rfl ?_ ?_
                · intro w hw
                  clear hw
                  go_simp
                try simp only [Act.put, List.setIfInBounds_toArray, List.set_cons_zero, List.set_cons_succ]
                refine LooseD.reads (.bool true) rfl rfl ?_ ?_
                · intro w hw
                  clear hw
                  go_simp
                try simp only [Act.put, List.setIfInBounds_toArray, List.set_cons_zero, List.set_cons_succ]
                refine LooseD.reads (.slice (some ⟨b6', 0, none⟩) nl c6) rfl rfl ?_ ?_
                · intro w hw
                  clear hw
                  go_simp
                try simp only [Act.put, List.setIfInBounds_toArray, List.set_cons_zero, List.set_cons_succ]
                refine LooseD.reads (.int .i64 j) rfl rfl ?_ ?_
                · intro w hw
                  clear hw
                  go_simp
                try simp only [Act.put, List.setIfInBounds_toArray, List.set_cons_zero, List.set_cons_succ]
                refine LooseD.reads (.slice (some ⟨b6', 0, none⟩) j c6) rfl rfl ?_ ?_
                · intro w hw
                  clear hw
                  go_simp
                try simp only [Act.put, List.setIfInBounds_toArray, List.set_cons_zero, List.set_cons_succ]
                refine LooseD.reads (.slice (some ⟨b6', 0, none⟩) nl c6) rfl rfl ?_ ?_
                · intro w hw
                  clear hw
                  go_simp
                try simp only [Act.put, List.setIfInBounds_toArray, List.set_cons_zero, List.set_cons_succ]
                refine LooseD.reads (.int .i64 j) rfl rfl ?_ ?_
                · intro w hw
                  clear hw
                  go_simp
                try simp only [Act.put, List.setIfInBounds_toArray, List.set_cons_zero, List.set_cons_succ]
                refine LooseD.reads (.pointer (some ⟨b6', j, none⟩)) rfl rfl ?_ ?_
                · intro w hw
                  clear hw
                  go_simp
                try simp only [Act.put, List.setIfInBounds_toArray, List.set_cons_zero, List.set_cons_succ]
                refine LooseD.reads (.string xm) rfl rfl ?_ ?_
                · intro w hw
                  have yj := HYJ.out w hw.1
                  clear hw
                  go_simp
                try simp only [Act.put, List.setIfInBounds_toArray, List.set_cons_zero, List.set_cons_succ]
                refine LooseD.gives (.bool false) 29 #[.slice (some ⟨b6', 0, none⟩) j c6, .string xm] rfl rfl ?_ (fun w hw hH => (HIN.out w hw.1).mono fun e w' h => ⟨h.1, by rw [h.2]; exact Below.refl _ _⟩) ?_
                · intro w hw
                  clear hw
                  go_simp
                try simp only [Act.put, List.setIfInBounds_toArray, List.set_cons_zero, List.set_cons_succ]
                refine LooseD.reads (.bool true) rfl rfl ?_ ?_
                · intro w hw
                  clear hw
                  go_simp
                try simp only [Act.put, List.setIfInBounds_toArray, List.set_cons_zero, List.set_cons_succ]
                refine LooseD.reads (.bool true) rfl rfl ?_ ?_
                · intro w hw
                  clear hw
                  go_simp
                try simp only [Act.put, List.setIfInBounds_toArray, List.set_cons_zero, List.set_cons_succ]
                refine LooseD.done ?_
                intro w6 hw6 _
                have HA6 := Lib.hid (HA.out.under hw6.1)
                have HW6 := Lib.hid hw6.1
                clear hw6
                have yj := HYJ.out w6 HW6.out
                have HOW := Lib.hid (show (w6.alloc (.cells #[.int .i64 10, .int .i64 k, .string xm] 50)).ownsRow (W.heap.size + 1) 50 3 (.slice Aq nq cq) nq (cellsP p2) by have := HA6.out.row.alloc (.cells #[.int .i64 10, .int .i64 k, .string xm] 50); rwa [← HNQ.out] at this)
                have HNEW := Lib.hid (Gn.row_new w6 [.int .i64 10, .int .i64 k, .string xm] 50 w6.heap.size rfl)
                have HAL := Lib.hid (HA6.out.under ((Below.refl w6.heap.size w6).alloc (Nat.le_refl _) (.cells #[.int .i64 10, .int .i64 k, .string xm] 50)))
                have HBL7 := Lib.hid (fun (h0 : 0 < nl) => Nat.lt_of_lt_of_le (HBL6.out h0) HW6.out.size)
                go_wp2_with (at_builtin; refine wpList_append_lies _ rfl _ _ 44 rfl (W.heap.size + 1) 50 i9 _ 3 32 Try.underlying44 hi9 hz0 hz1 hz2 rfl (by decide) (.slice Aq nq cq) nq (cellsP p2) rfl HOW.out ⟨w6.heap.size, 0, none⟩ 1 1 [.int .i64 10, .int .i64 k, .string xm] rfl rfl HNEW.out (by simp [Value.oneCell']) (by decide) (by unfold maxLen; omega) (by omega) (by have := Gn.heap_lt HAL.out.box; simp at this ⊢; omega) _ rfl ?_; intro gq cap' w4 hown4 hgrow4 hat4 hlt4; have H4 := Lib.hid (HAL.out.snoc (10, k, x) (v' := .slice (some ⟨gq, 0, none⟩) (nq + 1) cap') (by rw [← HNQ.out]; have h7 := hown4; rw [HNM.out] at h7; exact h7) hgrow4); have HG4 := Lib.hid hgrow4; have HT4 := Lib.hid hat4; clear hown4 hgrow4 hat4 hlt4)
                have hcl4 : ∀ i (h : i < bd.length), w4.cell? ⟨b6', i, none⟩ = some (strV bd[i]) := fun i hi => by
                  have h0 : 0 < nl := by omega
                  have h8 := HBL7.out h0
                  exact (Gn.cell_same ((HG4.out.block b6' (by simp; omega) (fun e => HSEP2.out b6' e.symm h0 rfl)).trans (heap_alloc_old _ _ h8)) i).trans (HYX.out w6 HW6.out i hi)
                have hsep4 : ∀ g, (Value.slice (some ⟨gq, 0, none⟩) (nq + 1) cap').ownBlock = some g → 0 < nl → g ≠ b6' := fun g hg h0 e => by
                  have hg : gq = g := by injection hg
                  subst hg
                  rcases HT4.out with h7 | h7
                  · exact HSEP2.out gq h7 h0 e
                  · have := HBL7.out h0
                    simp at h7
                    omega
                have hbl4 : 0 < nl → b6' < w4.heap.size := fun h0 => by have h8 := HG4.out.size; have := HBL7.out h0; simp at h8; omega
                have HC4 := Lib.hid hcl4
                have HS4 := Lib.hid hsep4
                have HL4 := Lib.hid hbl4
                clear hcl4 hsep4 hbl4
                go_roundw
                case rel => exact ⟨j + 1, by omega, by simp, by rw [HTP.out]; exact H4.out, HC4.out, HS4.out, HL4.out⟩
                case measure => simp [intOf]; omega
              | true =>
                rw [if_neg (fun h => h.2 (by simpa using hbi.symm))] at HTN
                have HTP := Lib.hid (show p1 ++ noneP rs k (onceP (bd.take (j + 1))) = p2 by rw [HTN.out, ← HP2.out])
                clear hbi
                go_wp2_with fail
                refine LooseD.region_loose (fun w => Below wr.heap.size wr w ∧ w.heap[W.heap.size]? = some (.cells #[.string ss, .slice (some ⟨b, 0, none⟩) n cap] 30 (0, 0))) _ _ (by kernel_rfl) (by kernel_rfl)
                  (LooseD.waits (D := [[], [], [], [], [], [], [], [], [], [], [], [], [], [], [], [], [], []]) (by kernel_rfl))
                  (LooseD.stays (ts := [none, none, none, none, none, some (.is (.int .i64 (-1))), none, none, none, none, none, none, none, none, none, some (.is (.bool true)), none, none]) (fun w w' h b => ⟨h.1.trans (b.mono h.1.size), (b.block _ (Gn.heap_lt h.2)).trans h.2⟩) (.none (.none (.none (.none (.none (.is (.none (.none (.none (.none (.none (.none (.none (.none (.none (.is (.none (.none .nil)))))))))))))))))))
                  ⟨(Below.refl _ _).drew, HA.out.box⟩ ?_
                refine LooseD.reads (.agg #[.string ss, .slice (some ⟨b, 0, none⟩) n cap]) rfl rfl ?_ ?_
                · intro w hw
                  have q0 := cell_of_row _ _ 0 _ _ (0, 0) hw.2
                  have q1 := cell_of_row _ _ 1 _ _ (0, 0) hw.2
                  clear hw
                  go_simp
                try simp only [Act.put, List.setIfInBounds_toArray, List.set_cons_zero, List.set_cons_succ]
                refine LooseD.reads (.slice (some ⟨b6', 0, none⟩) nl c6) rfl rfl ?_ ?_
                · intro w hw
                  clear hw
                  go_simp
                try simp only [Act.put, List.setIfInBounds_toArray, List.set_cons_zero, List.set_cons_succ]
                refine LooseD.reads (.int .i64 j) rfl rfl ?_ ?_
                · intro w hw
                  clear hw
                  go_simp
                try simp only [Act.put, List.setIfInBounds_toArray, List.set_cons_zero, List.set_cons_succ]
                refine LooseD.reads (.pointer (some ⟨b6', j, none⟩)) rfl rfl ?_ ?_
                · intro w hw
                  clear hw
                  go_simp
                try simp only [Act.put, List.setIfInBounds_toArray, List.set_cons_zero, List.set_cons_succ]
                refine LooseD.reads (.string xm) rfl rfl ?_ ?_
                · intro w hw
                  have yj := HYJ.out w hw.1
                  clear hw
                  go_simp
                try simp only [Act.put, List.setIfInBounds_toArray, List.set_cons_zero, List.set_cons_succ]
                refine LooseD.gives (.int .i64 (-1)) 15 #[.agg #[.string ss, .slice (some ⟨b, 0, none⟩) n cap], .string xm] rfl rfl ?_ (fun w hw hH => HKX.out w (HA.out.below.trans (hw.1.mono HA.out.below.size))) ?_
                · intro w hw
                  clear hw
                  go_simp
                try simp only [Act.put, List.setIfInBounds_toArray, List.set_cons_zero, List.set_cons_succ]
                refine LooseD.reads (.bool true) rfl rfl ?_ ?_
                · intro w hw
                  clear hw
                  go_simp
                try simp only [Act.put, List.setIfInBounds_toArray, List.set_cons_zero, List.set_cons_succ]
                refine LooseD.reads (.bool true) rfl rfl ?_ ?_
                · intro w hw
                  clear hw
                  go_simp
                try simp only [Act.put, List.setIfInBounds_toArray, List.set_cons_zero, List.set_cons_succ]
                refine LooseD.reads (.slice (some ⟨b6', 0, none⟩) nl c6) rfl rfl ?_ ?_
                · intro w hw
                  clear hw
                  go_simp
                try simp only [Act.put, List.setIfInBounds_toArray, List.set_cons_zero, List.set_cons_succ]
                refine LooseD.reads (.int .i64 j) rfl rfl ?_ ?_
                · intro w hw
                  clear hw
                  go_simp
                try simp only [Act.put, List.setIfInBounds_toArray, List.set_cons_zero, List.set_cons_succ]
                refine LooseD.reads (.slice (some ⟨b6', 0, none⟩) j c6) rfl rfl ?_ ?_
                · intro w hw
                  clear hw
                  go_simp
                try simp only [Act.put, List.setIfInBounds_toArray, List.set_cons_zero, List.set_cons_succ]
                refine LooseD.reads (.slice (some ⟨b6', 0, none⟩) nl c6) rfl rfl ?_ ?_
                · intro w hw
                  clear hw
                  go_simp
                try simp only [Act.put, List.setIfInBounds_toArray, List.set_cons_zero, List.set_cons_succ]
                refine LooseD.reads (.int .i64 j) rfl rfl ?_ ?_
                · intro w hw
                  clear hw
                  go_simp
                try simp only [Act.put, List.setIfInBounds_toArray, List.set_cons_zero, List.set_cons_succ]
                refine LooseD.reads (.pointer (some ⟨b6', j, none⟩)) rfl rfl ?_ ?_
                · intro w hw
                  clear hw
                  go_simp
                try simp only [Act.put, List.setIfInBounds_toArray, List.set_cons_zero, List.set_cons_succ]
                refine LooseD.reads (.string xm) rfl rfl ?_ ?_
                · intro w hw
                  have yj := HYJ.out w hw.1
                  clear hw
                  go_simp
                try simp only [Act.put, List.setIfInBounds_toArray, List.set_cons_zero, List.set_cons_succ]
                refine LooseD.gives (.bool true) 29 #[.slice (some ⟨b6', 0, none⟩) j c6, .string xm] rfl rfl ?_ (fun w hw hH => (HIN.out w hw.1).mono fun e w' h => ⟨h.1, by rw [h.2]; exact Below.refl _ _⟩) ?_
                · intro w hw
                  clear hw
                  go_simp
                try simp only [Act.put, List.setIfInBounds_toArray, List.set_cons_zero, List.set_cons_succ]
                refine LooseD.reads (.bool false) rfl rfl ?_ ?_
                · intro w hw
                  clear hw
                  go_simp
                try simp only [Act.put, List.setIfInBounds_toArray, List.set_cons_zero, List.set_cons_succ]
                refine LooseD.reads (.bool false) rfl rfl ?_ ?_
                · intro w hw
                  clear hw
                  go_simp
                try simp only [Act.put, List.setIfInBounds_toArray, List.set_cons_zero, List.set_cons_succ]
                refine LooseD.done ?_
                intro w6 hw6 _
                have HA6 := Lib.hid (HA.out.under hw6.1)
                have HW6 := Lib.hid hw6.1
                clear hw6
                have hbl7 : 0 < nl → b6' < w6.heap.size := fun h0 => Nat.lt_of_lt_of_le (HBL6.out h0) HW6.out.size
                have HB7 := Lib.hid hbl7
                clear hbl7
                go_wp2_with fail
                go_roundw
                case rel => exact ⟨j + 1, by omega, by simp, by rw [HTP.out]; exact HA6.out, fun i hi => HYX.out _ HW6.out i hi, HSEP2.out, HB7.out⟩
                case measure => simp [intOf]; omega
            · have e2 : decide ((fx : Int) < 0) = false := by rw [decide_eq_false]; omega
              rw [if_neg (fun h => hf1 h.1)] at HTN
              have HTP := Lib.hid (show p1 ++ noneP rs k (onceP (bd.take (j + 1))) = p2 by rw [HTN.out, ← HP2.out])
              clear hbi
              go_wp2_with fail
              refine LooseD.region_loose (fun w => Below wr.heap.size wr w ∧ w.heap[W.heap.size]? = some (.cells #[.string ss, .slice (some ⟨b, 0, none⟩) n cap] 30 (0, 0))) _ _ (by kernel_rfl) (by kernel_rfl)
                (LooseD.waits (D := [[], [], [], [], [], [], [], [], [], [], [], [], [], [], [], [], [], []]) (by kernel_rfl))
                (LooseD.stays (ts := [none, none, none, none, none, some (.is (.int .i64 fx)), none, none, none, none, none, none, none, none, none, none, none, none]) (fun w w' h b => ⟨h.1.trans (b.mono h.1.size), (b.block _ (Gn.heap_lt h.2)).trans h.2⟩) (.none (.none (.none (.none (.none (.is (.none (.none (.none (.none (.none (.none (.none (.none (.none (.none (.none (.none .nil)))))))))))))))))))
                ⟨(Below.refl _ _).drew, HA.out.box⟩ ?_
              refine LooseD.reads (.agg #[.string ss, .slice (some ⟨b, 0, none⟩) n cap]) rfl rfl ?_ ?_
              · intro w hw
                have q0 := cell_of_row _ _ 0 _ _ (0, 0) hw.2
                have q1 := cell_of_row _ _ 1 _ _ (0, 0) hw.2
                clear hw
                go_simp
              try simp only [Act.put, List.setIfInBounds_toArray, List.set_cons_zero, List.set_cons_succ]
              refine LooseD.reads (.slice (some ⟨b6', 0, none⟩) nl c6) rfl rfl ?_ ?_
              · intro w hw
                clear hw
                go_simp
              try simp only [Act.put, List.setIfInBounds_toArray, List.set_cons_zero, List.set_cons_succ]
              refine LooseD.reads (.int .i64 j) rfl rfl ?_ ?_
              · intro w hw
                clear hw
                go_simp
              try simp only [Act.put, List.setIfInBounds_toArray, List.set_cons_zero, List.set_cons_succ]
              refine LooseD.reads (.pointer (some ⟨b6', j, none⟩)) rfl rfl ?_ ?_
              · intro w hw
                clear hw
                go_simp
              try simp only [Act.put, List.setIfInBounds_toArray, List.set_cons_zero, List.set_cons_succ]
              refine LooseD.reads (.string xm) rfl rfl ?_ ?_
              · intro w hw
                have yj := HYJ.out w hw.1
                clear hw
                go_simp
              try simp only [Act.put, List.setIfInBounds_toArray, List.set_cons_zero, List.set_cons_succ]
              refine LooseD.gives (.int .i64 fx) 15 #[.agg #[.string ss, .slice (some ⟨b, 0, none⟩) n cap], .string xm] rfl rfl ?_ (fun w hw hH => HKX.out w (HA.out.below.trans (hw.1.mono HA.out.below.size))) ?_
              · intro w hw
                clear hw
                go_simp
              try simp only [Act.put, List.setIfInBounds_toArray, List.set_cons_zero, List.set_cons_succ]
              refine LooseD.reads (.bool false) rfl rfl ?_ ?_
              · intro w hw
                clear hw
                go_simp
              try simp only [Act.put, List.setIfInBounds_toArray, List.set_cons_zero, List.set_cons_succ]
              refine LooseD.reads (.bool false) rfl rfl ?_ ?_
              · intro w hw
                clear hw
                go_simp
              try simp only [Act.put, List.setIfInBounds_toArray, List.set_cons_zero, List.set_cons_succ]
              refine LooseD.unwanted rfl ?_
              try simp only [Act.put, List.setIfInBounds_toArray, List.set_cons_zero, List.set_cons_succ]
              refine LooseD.unwanted rfl ?_
              try simp only [Act.put, List.setIfInBounds_toArray, List.set_cons_zero, List.set_cons_succ]
              refine LooseD.unwanted rfl ?_
              try simp only [Act.put, List.setIfInBounds_toArray, List.set_cons_zero, List.set_cons_succ]
              refine LooseD.unwanted rfl ?_
              try simp only [Act.put, List.setIfInBounds_toArray, List.set_cons_zero, List.set_cons_succ]
              refine LooseD.unwanted rfl ?_
              try simp only [Act.put, List.setIfInBounds_toArray, List.set_cons_zero, List.set_cons_succ]
              refine LooseD.unwanted rfl ?_
              try simp only [Act.put, List.setIfInBounds_toArray, List.set_cons_zero, List.set_cons_succ]
              refine LooseD.unwanted rfl ?_
              try simp only [Act.put, List.setIfInBounds_toArray, List.set_cons_zero, List.set_cons_succ]
              refine LooseD.unwanted rfl ?_
              try simp only [Act.put, List.setIfInBounds_toArray, List.set_cons_zero, List.set_cons_succ]
              refine LooseD.unwanted rfl ?_
              try simp only [Act.put, List.setIfInBounds_toArray, List.set_cons_zero, List.set_cons_succ]
              refine LooseD.reads (.bool false) rfl rfl ?_ ?_
              · intro w hw
                clear hw
                go_simp
              try simp only [Act.put, List.setIfInBounds_toArray, List.set_cons_zero, List.set_cons_succ]
              refine LooseD.done ?_
              intro w6 hw6 _
              have HA6 := Lib.hid (HA.out.under hw6.1)
              have HW6 := Lib.hid hw6.1
              clear hw6
              have hbl7 : 0 < nl → b6' < w6.heap.size := fun h0 => Nat.lt_of_lt_of_le (HBL6.out h0) HW6.out.size
              have HB7 := Lib.hid hbl7
              clear hbl7
              go_wp2_with fail
              go_roundw
              case rel => exact ⟨j + 1, by omega, by simp, by rw [HTP.out]; exact HA6.out, fun i hi => HYX.out _ HW6.out i hi, HSEP2.out, HB7.out⟩
              case measure => simp [intOf]; omega
          · have hje : nl = j := by omega
            subst hje
            have hjn2 : ¬ ((nl : Nat) : Int) < ((nl : Nat) : Int) := by omega
            have HFIN := Lib.hid (show rulesGo rs 0 (rs.take (k + 1)) = p2 by rw [HPP.out, HP2.out, HNL.out, List.take_length])
            go_wp2_with fail
            go_roundw
            case rel => exact ⟨k + 1, by omega, by simp, by rw [HFIN.out]; exact HA.out⟩
            case measure => simp [intOf]; omega
    · have hke : n = k := by omega
      subst hke
      have hlt2 : ¬ ((n : Nat) : Int) < ((n : Nat) : Int) := by omega
      have HCH := Lib.hid (show checkP G = ps ++ (if firstP rs G.start = -1 then [(19, -1, G.start)] else []) by rw [HPS.out, HN.out, List.take_length, HRS.out]; rfl)
      have HKX := Lib.hid (HKO.out G.start wr HA.out.below)
      have hlow := first_low rs G.start
      rw [← HSS.out] at HKX
      obtain ⟨fs, hfs⟩ : ∃ fs, fs = firstP rs G.start := ⟨_, rfl⟩
      rw [← hfs] at HKX HCH hlow
      clear hfs
      have HNM := HSS
      by_cases hf1 : fs = -1
      · have e2 : decide ((fs : Int) < 0) = true := by rw [hf1]; rfl
        rw [if_pos hf1] at HCH
        subst hf1
        go_wp2_with fail
        refine HKX.out.mono ?_
        rintro e w6 ⟨rfl, hw6⟩
        have HA6 := Lib.hid (HA.out.under hw6)
        have z0 := cell_of_row _ _ 0 _ _ (0, 0) HA6.out.box
        clear hw6
        have HOW := Lib.hid (show (w6.alloc (.cells #[.int .i64 19, .int .i64 (-1), .string ss] 50)).ownsRow (W.heap.size + 1) 50 3 (.slice Ap np cp) np (cellsP ps) by have := HA6.out.row.alloc (.cells #[.int .i64 19, .int .i64 (-1), .string ss] 50); rwa [← HNP.out] at this)
        have HNEW := Lib.hid (Gn.row_new w6 [.int .i64 19, .int .i64 (-1), .string ss] 50 w6.heap.size rfl)
        have HAL := Lib.hid (HA6.out.under ((Below.refl w6.heap.size w6).alloc (Nat.le_refl _) (.cells #[.int .i64 19, .int .i64 (-1), .string ss] 50)))
        go_wp2_with (at_builtin; refine wpList_append_lies _ rfl _ _ 44 rfl (W.heap.size + 1) 50 i9 _ 3 32 Try.underlying44 hi9 hz0 hz1 hz2 rfl (by decide) (.slice Ap np cp) np (cellsP ps) rfl HOW.out ⟨w6.heap.size, 0, none⟩ 1 1 [.int .i64 19, .int .i64 (-1), .string ss] rfl rfl HNEW.out (by simp [Value.oneCell']) (by decide) (by unfold maxLen; omega) (by omega) (by have := Gn.heap_lt HAL.out.box; simp at this ⊢; omega) _ rfl ?_; intro gq cap' w4 hown4 hgrow4 hat4 hlt4; have H4 := Lib.hid (HAL.out.snoc (19, (-1), G.start) (v' := .slice (some ⟨gq, 0, none⟩) (np + 1) cap') (by rw [← HNP.out]; have h7 := hown4; rw [HNM.out] at h7; exact h7) hgrow4); have HG4 := Lib.hid hgrow4; have HT4 := Lib.hid hat4; clear hown4 hgrow4 hat4 hlt4)
        go_ret
        exact ⟨_, rfl, by rw [HCH.out]; exact own_mono1 H4.out.row (Nat.le_succ _), H4.out.below⟩
      · have e2 : decide ((fs : Int) < 0) = false := by rw [decide_eq_false]; omega
        rw [if_neg hf1, List.append_nil] at HCH
        go_wp2_with fail
        refine HKX.out.mono ?_
        rintro e w6 ⟨rfl, hw6⟩
        have HA6 := Lib.hid (HA.out.under hw6)
        clear hw6
        go_wp2_with fail
        go_ret
        exact ⟨_, rfl, by rw [HCH.out, ← HNP.out]; exact own_mono1 (by have := HA6.out.row; rwa [← HNP.out] at this) (Nat.le_succ _), HA6.out.below⟩
end Go.Proofs.Ytakihbjfkpebcaa.Sx

namespace Go.Proofs.Ytakihbjfkpebcaa.Sx
open Go.RowKit
open Lx (heap_lt own_block)
set_option maxRecDepth 100000
set_option linter.unusedSimpArgs false
set_option linter.unusedVariables false

/-- This value reads as these nodes. -/
def NdsAt (P : Nat → Prop) (W : World) (l : List Tree) (v : Value) : Prop :=
  ∃ (A : Option Addr) (cap r : Nat) (a b c : Nat → Value), v = .slice A l.length cap ∧ l.length ≤ cap ∧ (0 < l.length → A = some ⟨r, 0, none⟩ ∧ r < W.heap.size ∧ P r) ∧
    ∀ (i : Nat) (h : i < l.length), (W.cell? ⟨r, i * 3, none⟩ = some (a i) ∧ W.cell? ⟨r, i * 3 + 1, none⟩ = some (b i) ∧ W.cell? ⟨r, i * 3 + 2, none⟩ = some (c i)) ∧ Nd P W l[i] (a i) (b i) (c i)
theorem Nd.open_ {P : Nat → Prop} {W : World} {k : Nat} {t : List UInt8} {l : List Tree} {x y z : Value} (h : Nd P W (.node k t l) x y z) : x = .int .i64 k ∧ y = .string (Lx.mk t) ∧ NdsAt P W l z := by
  cases h with
  | mk k text kids A cap r a b c hA hcap hc hk => exact ⟨rfl, rfl, A, cap, r, a, b, c, rfl, hcap, hA, fun i h => ⟨hc i h, hk i h⟩⟩
theorem NdsAt.under {P : Nat → Prop} {W W' : World} {l : List Tree} {v : Value} (h : NdsAt P W l v) (hb : Below W.heap.size W W') : NdsAt P W' l v := by
  obtain ⟨A, cap, r, a, b, c, h1, h2, h3, h4⟩ := h
  refine ⟨A, cap, r, a, b, c, h1, h2, fun h0 => ?_, fun i hi => ?_⟩
  · obtain ⟨e1, e2, e3⟩ := h3 h0
    have := hb.size
    exact ⟨e1, by omega, e3⟩
  · obtain ⟨e1, e2, e3⟩ := h3 (by omega)
    have e := fun j => hb.cell (p := ⟨r, j, none⟩) e2
    rw [e, e, e]
    exact ⟨(h4 i hi).1, (h4 i hi).2.under hb⟩

theorem NdsAt.form {P : Nat → Prop} {W : World} {l : List Tree} {v : Value} (h : NdsAt P W l v) : ∃ A cap, v = .slice A l.length cap := by
  obtain ⟨A, cap, r, a, b, c, h1, _⟩ := h
  exact ⟨A, cap, h1⟩

/-- A row of nodes of the call's own, that may still grow: no node stands in the row itself, nor in block x. -/
def QItems (base x : Nat) (W : World) (A : Option Addr) (cap : Nat) (acc : List Tree) : Prop :=
  ∃ vs : List (Value × Value × Value), vs.length = acc.length ∧ W.ownsRow base 57 3 (.slice A acc.length cap) acc.length (cells3 vs) ∧ (Value.slice A acc.length cap).ownBlock ≠ some x ∧
    ∀ (i : Nat) (h : i < acc.length) (h2 : i < vs.length), Nd (fun r => base ≤ r ∧ r ≠ x ∧ (Value.slice A acc.length cap).ownBlock ≠ some r) W acc[i] vs[i].1 vs[i].2.1 vs[i].2.2
theorem QItems.nil (base x : Nat) (W : World) : QItems base x W none 0 [] := ⟨[], rfl, World.ownsRow_nil _ _ _ _, by simp [Value.ownBlock], fun i h => absurd h (by simp)⟩
theorem QItems.keep {base x : Nat} {W W' : World} {A : Option Addr} {cap : Nat} {acc : List Tree} (h : QItems base x W A cap acc) (hs : W.heap.size ≤ W'.heap.size) (hb : ∀ r, base ≤ r → r ≠ x → r < W.heap.size → W'.heap[r]? = W.heap[r]?) : QItems base x W' A cap acc := by
  obtain ⟨vs, h1, h2, hx, h3⟩ := h
  refine ⟨vs, h1, ⟨h2.1, ?_⟩, hx, fun i hi hi2 => (h3 i hi hi2).keep hs fun r hp hr => ⟨hp, fun j => ?_⟩⟩
  · rcases h2.2 with h4 | ⟨g, cp, cur, hv, hbr, hh, hrest⟩
    · exact .inl h4
    · exact .inr ⟨g, cp, cur, hv, hbr, (hb g hbr (fun e => hx (by rw [hv, ← e]; rfl)) (heap_lt hh)).trans hh, hrest⟩
  · have := hb r hp.1 hp.2.1 hr
    unfold World.cell?
    simp only [this]
/-- The row as a node's kids. -/
theorem QItems.node {base x : Nat} {W : World} {A : Option Addr} {cap : Nat} {acc : List Tree} (h : QItems base x W A cap acc) (k : Nat) : Nd (fun r => base ≤ r ∧ r ≠ x) W (.node k [] acc) (.int .i64 k) (.string ⟨#[]⟩) (.slice A acc.length cap) := by
  obtain ⟨vs, h1, h2, hx, h3⟩ := h
  have hw : ∀ (i : Nat) (hi : i < acc.length), Nd (fun r => base ≤ r ∧ r ≠ x) W acc[i] (vs.getD i (.bool false, .bool false, .bool false)).1 (vs.getD i (.bool false, .bool false, .bool false)).2.1 (vs.getD i (.bool false, .bool false, .bool false)).2.2 := fun i hi => by
    have e : vs.getD i (.bool false, .bool false, .bool false) = vs[i]'(by omega) := by simp [List.getD, List.getElem?_eq_getElem (show i < vs.length by omega)]
    rw [e]
    exact (h3 i hi (by omega)).keep (Nat.le_refl _) fun r hp _ => ⟨⟨hp.1, hp.2.1⟩, fun _ => rfl⟩
  rcases h2.2 with ⟨hv, hn⟩ | ⟨g, cp, cur, hv, hbr, hh, hnc, _⟩
  · have e : acc = [] := List.eq_nil_of_length_eq_zero hn
    subst e
    exact Nd.leaf _ _ k [] A cap
  · have hgx : g ≠ x := fun e => hx (by rw [hv, ← e]; rfl)
    injection hv with hA _ hcp
    subst hA
    subst hcp
    have hcell := h2.cells (g := g) rfl
    refine .mk k [] acc (some ⟨g, 0, none⟩) cap g _ _ _ (fun _ => ⟨rfl, heap_lt hh, hbr, hgx⟩) hnc (fun i hi => ?_) hw
    have e : vs.getD i (.bool false, .bool false, .bool false) = vs[i]'(by omega) := by simp [List.getD, List.getElem?_eq_getElem (show i < vs.length by omega)]
    obtain ⟨c1, c2, c3⟩ := cells3_at vs i (by omega)
    simp only [e]
    refine ⟨?_, ?_, ?_⟩
    · have := hcell _ _ c1; rwa [Lx.add_row] at this
    · have := hcell _ _ c2; rwa [Lx.add_row] at this
    · have := hcell _ _ c3; rwa [Lx.add_row] at this
/-- The only node of a row. -/
theorem QItems.one {base x : Nat} {W : World} {A : Option Addr} {cap : Nat} {t : Tree} (h : QItems base x W A cap [t]) : ∃ r a b c, A = some ⟨r, 0, none⟩ ∧ 1 ≤ cap ∧ W.cell? ⟨r, 0, none⟩ = some a ∧ W.cell? ⟨r, 1, none⟩ = some b ∧ W.cell? ⟨r, 2, none⟩ = some c ∧ Nd (fun r => base ≤ r ∧ r ≠ x) W t a b c := by
  obtain ⟨vs, h1, h2, hx, h3⟩ := h
  rcases h2.2 with ⟨hv, hn⟩ | ⟨g, cp, cur, hv, hbr, hh, hnc, _⟩
  · simp at hn
  · injection hv with hA _ hcp
    subst hA
    subst hcp
    have hcell := h2.cells (g := g) rfl
    obtain ⟨c1, c2, c3⟩ := cells3_at vs 0 (by simp at h1; omega)
    have hv0 : 0 < vs.length := by simp at h1; omega
    have hn := h3 0 (by simp) hv0
    refine ⟨g, (vs[0]'hv0).1, (vs[0]'hv0).2.1, (vs[0]'hv0).2.2, rfl, by simpa using hnc, ?_, ?_, ?_, hn.keep (Nat.le_refl _) fun r hp _ => ⟨⟨hp.1, hp.2.1⟩, fun _ => rfl⟩⟩
    · have := hcell _ _ c1; rwa [Lx.add_row] at this
    · have := hcell _ _ c2; rwa [Lx.add_row] at this
    · have := hcell _ _ c3; rwa [Lx.add_row] at this
theorem QItems.own_lt {base x : Nat} {W : World} {A : Option Addr} {cap : Nat} {acc : List Tree} (h : QItems base x W A cap acc) : ∀ k, (Value.slice A acc.length cap).ownBlock = some k → k < W.heap.size ∧ base ≤ k ∧ k ≠ x := by
  intro k hk
  obtain ⟨vs, _, ho, hx, _⟩ := h
  refine ⟨?_, own_block ho k hk, fun e => hx (by rw [hk, e])⟩
  rcases ho.2 with ⟨h1, _⟩ | ⟨q, _, _, h1, _, h3, _⟩
  · rw [h1] at hk; simp [Value.ownBlock] at hk
  · rw [h1] at hk
    simp [Value.ownBlock] at hk
    have := heap_lt h3
    omega
/-- Behind an append of one node that was made behind the row. -/
theorem QItems.snoc {base x lo gq cap' : Nat} {W1 w4 : World} {A : Option Addr} {cap : Nat} {acc : List Tree} {t : Tree} {a b c : Value} {o : Obj} (h : QItems base x W1 A cap acc) (hlo : base ≤ lo) (hxl : x < lo) (hown : ∀ k, (Value.slice A acc.length cap).ownBlock = some k → k < lo) (hlo2 : lo ≤ W1.heap.size) (hn : Nd (fun r => lo ≤ r) W1 t a b c)
    (hown4 : ∀ vs : List (Value × Value × Value), W1.ownsRow base 57 3 (.slice A acc.length cap) acc.length (cells3 vs) → w4.ownsRow base 57 3 (.slice (some ⟨gq, 0, none⟩) (acc.length + 1) cap') (acc.length + 1) (cells3 vs ++ [a, b, c]))
    (hg : (W1.alloc o).grownBy w4 (Value.slice A acc.length cap).ownBlock) (hat : (Value.slice A acc.length cap).ownBlock = some gq ∨ gq = (W1.alloc o).heap.size) :
    QItems base x w4 (some ⟨gq, 0, none⟩) cap' (acc ++ [t]) := by
  have hol := h.own_lt
  obtain ⟨vs, h1, h2, hx, h3⟩ := h
  have ho := hown4 vs h2
  have hl : (acc ++ [t]).length = acc.length + 1 := by simp
  have hsz : W1.heap.size ≤ w4.heap.size := by have := hg.size; simp at this; omega
  have hcell : ∀ r j, r < W1.heap.size → (Value.slice A acc.length cap).ownBlock ≠ some r → w4.cell? ⟨r, j, none⟩ = W1.cell? ⟨r, j, none⟩ := fun r j hr hne => by
    have e := (hg.block r (by simp; omega) (fun e => hne e.symm)).trans (heap_alloc_old W1 o hr)
    unfold World.cell?
    simp only [e]
  have hgx : gq ≠ x := by
    rcases hat with h | h
    · exact (hol gq h).2.2
    · rw [h]; simp; omega
  refine ⟨vs ++ [(a, b, c)], by simp [h1], by rw [hl, cells3_snoc]; exact ho, by rw [hl]; intro e; exact hgx (by simpa [Value.ownBlock] using e), fun i hi hi2 => ?_⟩
  rw [hl]
  have hne4 : ∀ r, r < W1.heap.size → (Value.slice A acc.length cap).ownBlock ≠ some r → (Value.slice (some ⟨gq, 0, none⟩) (acc.length + 1) cap').ownBlock ≠ some r := fun r hr hne e => by
    have e2 : gq = r := by simpa [Value.ownBlock] using e
    rcases hat with h | h
    · rw [e2] at h; exact hne h
    · rw [e2] at h; simp at h; omega
  by_cases hi3 : i < acc.length
  · have e1 : (acc ++ [t])[i] = acc[i] := List.getElem_append_left hi3
    have e2 : (vs ++ [(a, b, c)])[i] = vs[i]'(by omega) := List.getElem_append_left (by omega)
    rw [e1, e2]
    exact (h3 i hi3 (by omega)).keep hsz fun r hp hr => ⟨⟨hp.1, hp.2.1, hne4 r hr hp.2.2⟩, fun j => hcell r j hr hp.2.2⟩
  · have hie : i = acc.length := by rw [hl] at hi; omega
    subst hie
    have e1 : (acc ++ [t])[acc.length]'hi = t := by simp
    have e2 : (vs ++ [(a, b, c)])[acc.length]'hi2 = (a, b, c) := by simp [← h1]
    rw [e1, e2]
    refine hn.keep hsz fun r hp hr => ?_
    have hne : (Value.slice A acc.length cap).ownBlock ≠ some r := fun e => by have := hown r e; omega
    exact ⟨⟨by omega, by omega, hne4 r hr hne⟩, fun j => hcell r j hr hne⟩
/-- One node as a row; x is the next block. -/
theorem QItems.start {base lo : Nat} {W : World} {t : Tree} {a b c : Value} (h : Nd (fun r => lo ≤ r) W t a b c) (hlo : base ≤ lo) (hb : base ≤ W.heap.size) : QItems base (W.heap.size + 1) (W.alloc (.cells #[a, b, c] 57)) (some ⟨W.heap.size, 0, none⟩) 1 [t] := by
  refine ⟨[(a, b, c)], rfl, ⟨rfl, .inr ⟨W.heap.size, 1, _, rfl, hb, heap_alloc_new W _, Nat.le_refl _, by unfold maxLen; simp, rfl, rfl⟩⟩, by simp [Value.ownBlock], fun i hi hi2 => ?_⟩
  have : i = 0 := by simp at hi; omega
  subst this
  refine h.keep (by simp) fun r hp hr => ⟨⟨by omega, by omega, fun e => ?_⟩, fun j => ((Below.refl W.heap.size W).alloc (Nat.le_refl _) _).cell (p := ⟨r, j, none⟩) hr⟩
  simp [Value.ownBlock] at e
  omega
theorem qninfo : (Try.prog.info? 57).map (fun i => (i.zero, i.size, i.bytes)) = some (some (.agg #[.int .i64 0, .string ⟨#[]⟩, .slice none 0 0]), 3, 48) := by kernel_rfl

theorem qres_done {w3 : World} {b : Nat} {u v s : Value} (h : w3.heap[b]? = some (.cells #[u, v, s] 57 (0, 0))) (x y z : Value) : (((w3.setCell ⟨b, 0, none⟩ x).setCell ⟨b, 1, none⟩ y).setCell ⟨b, 2, none⟩ z).heap[b]? = some (.cells #[x, y, z] 57 (0, 0)) :=
  Lx.heap_set (Lx.heap_set (Lx.heap_set h 0 _) 1 _) 2 _
theorem frozen_qrow {W : World} {b : Nat} {cs : Array Value} {t : TypeId} (h : W.heap[b]? = some (.cells cs t (0, 0))) : ∀ j, W.frozen? ⟨b, j, none⟩ = false := fun j => by simp [World.frozen?, h]

/-- A row of rules of the call's own, that may still grow: no node stands in the row itself, nor in block x. -/
def QRItems (base x : Nat) (W : World) (A : Option Addr) (cap : Nat) (acc : List Rul) : Prop :=
  ∃ vs : List (Value × Value × Value × Value), vs.length = acc.length ∧ W.ownsRow base 59 4 (.slice A acc.length cap) acc.length (cells4 vs) ∧ (Value.slice A acc.length cap).ownBlock ≠ some x ∧
    ∀ (i : Nat) (h : i < acc.length) (h2 : i < vs.length), vs[i].1 = .string (Lx.mk acc[i].1) ∧ Nd (fun r => base ≤ r ∧ r ≠ x ∧ (Value.slice A acc.length cap).ownBlock ≠ some r) W acc[i].2 vs[i].2.1 vs[i].2.2.1 vs[i].2.2.2
theorem QRItems.nil (base x : Nat) (W : World) : QRItems base x W none 0 [] := ⟨[], rfl, World.ownsRow_nil _ _ _ _, by simp [Value.ownBlock], fun i h => absurd h (by simp)⟩
theorem QRItems.keep {base x : Nat} {W W' : World} {A : Option Addr} {cap : Nat} {acc : List Rul} (h : QRItems base x W A cap acc) (hs : W.heap.size ≤ W'.heap.size) (hb : ∀ r, base ≤ r → r ≠ x → r < W.heap.size → W'.heap[r]? = W.heap[r]?) : QRItems base x W' A cap acc := by
  obtain ⟨vs, h1, h2, hx, h3⟩ := h
  refine ⟨vs, h1, ⟨h2.1, ?_⟩, hx, fun i hi hi2 => ⟨(h3 i hi hi2).1, (h3 i hi hi2).2.keep hs fun r hp hr => ⟨hp, fun j => ?_⟩⟩⟩
  · rcases h2.2 with h4 | ⟨g, cp, cur, hv, hbr, hh, hrest⟩
    · exact .inl h4
    · exact .inr ⟨g, cp, cur, hv, hbr, (hb g hbr (fun e => hx (by rw [hv, ← e]; rfl)) (heap_lt hh)).trans hh, hrest⟩
  · have := hb r hp.1 hp.2.1 hr
    unfold World.cell?
    simp only [this]
/-- The row as rules. -/
theorem QRItems.rls {base x : Nat} {W : World} {A : Option Addr} {cap : Nat} {acc : List Rul} (h : QRItems base x W A cap acc) : RlsAt (fun r => base ≤ r ∧ r ≠ x) W acc (.slice A acc.length cap) := by
  obtain ⟨vs, h1, h2, hx, h3⟩ := h
  rcases h2.2 with ⟨hv, hn⟩ | ⟨g, cp, cur, hv, hbr, hh, hnc, _⟩
  · have e : acc = [] := List.eq_nil_of_length_eq_zero hn
    subst e
    exact RlsAt.nil _ _ A cap
  · have hgx : g ≠ x := fun e => hx (by rw [hv, ← e]; rfl)
    injection hv with hA _ hcp
    subst hA
    subst hcp
    have hcell := h2.cells (g := g) rfl
    refine ⟨some ⟨g, 0, none⟩, cap, g, fun i => (vs.getD i (.bool false, .bool false, .bool false, .bool false)).2.1, fun i => (vs.getD i (.bool false, .bool false, .bool false, .bool false)).2.2.1, fun i => (vs.getD i (.bool false, .bool false, .bool false, .bool false)).2.2.2, rfl, hnc, fun _ => ⟨rfl, heap_lt hh, hbr, hgx⟩, fun i hi => ?_⟩
    have e : vs.getD i (.bool false, .bool false, .bool false, .bool false) = vs[i]'(by omega) := by simp [List.getD, List.getElem?_eq_getElem (show i < vs.length by omega)]
    obtain ⟨c1, c2, c3, c4⟩ := cells4_at vs i (by omega)
    obtain ⟨n1, n2⟩ := h3 i hi (by omega)
    simp only [e]
    refine ⟨⟨?_, ?_, ?_, ?_⟩, n2.keep (Nat.le_refl _) fun r hp _ => ⟨⟨hp.1, hp.2.1⟩, fun _ => rfl⟩⟩
    · rw [n1] at c1; have := hcell _ _ c1; rwa [Lx.add_row] at this
    · have := hcell _ _ c2; rwa [Lx.add_row] at this
    · have := hcell _ _ c3; rwa [Lx.add_row] at this
    · have := hcell _ _ c4; rwa [Lx.add_row] at this
theorem QRItems.own_lt {base x : Nat} {W : World} {A : Option Addr} {cap : Nat} {acc : List Rul} (h : QRItems base x W A cap acc) : ∀ k, (Value.slice A acc.length cap).ownBlock = some k → k < W.heap.size ∧ base ≤ k ∧ k ≠ x := by
  intro k hk
  obtain ⟨vs, _, ho, hx, _⟩ := h
  refine ⟨?_, own_block ho k hk, fun e => hx (by rw [hk, e])⟩
  rcases ho.2 with ⟨h1, _⟩ | ⟨q, _, _, h1, _, h3, _⟩
  · rw [h1] at hk; simp [Value.ownBlock] at hk
  · rw [h1] at hk
    simp [Value.ownBlock] at hk
    have := heap_lt h3
    omega
/-- Behind an append of one rule whose node was made behind the row. -/
theorem QRItems.snoc {base x lo gq cap' : Nat} {W1 w4 : World} {A : Option Addr} {cap : Nat} {acc : List Rul} {n : List UInt8} {t : Tree} {a b c : Value} {o : Obj} (h : QRItems base x W1 A cap acc) (hlo : base ≤ lo) (hxl : x < lo) (hown : ∀ k, (Value.slice A acc.length cap).ownBlock = some k → k < lo) (hlo2 : lo ≤ W1.heap.size) (hn : Nd (fun r => lo ≤ r) W1 t a b c)
    (hown4 : ∀ vs : List (Value × Value × Value × Value), W1.ownsRow base 59 4 (.slice A acc.length cap) acc.length (cells4 vs) → w4.ownsRow base 59 4 (.slice (some ⟨gq, 0, none⟩) (acc.length + 1) cap') (acc.length + 1) (cells4 vs ++ [.string (Lx.mk n), a, b, c]))
    (hg : (W1.alloc o).grownBy w4 (Value.slice A acc.length cap).ownBlock) (hat : (Value.slice A acc.length cap).ownBlock = some gq ∨ gq = (W1.alloc o).heap.size) :
    QRItems base x w4 (some ⟨gq, 0, none⟩) cap' (acc ++ [(n, t)]) := by
  have hol := h.own_lt
  obtain ⟨vs, h1, h2, hx, h3⟩ := h
  have ho := hown4 vs h2
  have hl : (acc ++ [(n, t)]).length = acc.length + 1 := by simp
  have hsz : W1.heap.size ≤ w4.heap.size := by have := hg.size; simp at this; omega
  have hcell : ∀ r j, r < W1.heap.size → (Value.slice A acc.length cap).ownBlock ≠ some r → w4.cell? ⟨r, j, none⟩ = W1.cell? ⟨r, j, none⟩ := fun r j hr hne => by
    have e := (hg.block r (by simp; omega) (fun e => hne e.symm)).trans (heap_alloc_old W1 o hr)
    unfold World.cell?
    simp only [e]
  have hgx : gq ≠ x := by
    rcases hat with h | h
    · exact (hol gq h).2.2
    · rw [h]; simp; omega
  refine ⟨vs ++ [(.string (Lx.mk n), a, b, c)], by simp [h1], by rw [hl, cells4_snoc]; exact ho, by rw [hl]; intro e; exact hgx (by simpa [Value.ownBlock] using e), fun i hi hi2 => ?_⟩
  rw [hl]
  have hne4 : ∀ r, r < W1.heap.size → (Value.slice A acc.length cap).ownBlock ≠ some r → (Value.slice (some ⟨gq, 0, none⟩) (acc.length + 1) cap').ownBlock ≠ some r := fun r hr hne e => by
    have e2 : gq = r := by simpa [Value.ownBlock] using e
    rcases hat with h | h
    · rw [e2] at h; exact hne h
    · rw [e2] at h; simp at h; omega
  by_cases hi3 : i < acc.length
  · have e1 : (acc ++ [(n, t)])[i] = acc[i] := List.getElem_append_left hi3
    have e2 : (vs ++ [(.string (Lx.mk n), a, b, c)])[i] = vs[i]'(by omega) := List.getElem_append_left (by omega)
    rw [e1, e2]
    exact ⟨(h3 i hi3 (by omega)).1, (h3 i hi3 (by omega)).2.keep hsz fun r hp hr => ⟨⟨hp.1, hp.2.1, hne4 r hr hp.2.2⟩, fun j => hcell r j hr hp.2.2⟩⟩
  · have hie : i = acc.length := by rw [hl] at hi; omega
    subst hie
    have e1 : (acc ++ [(n, t)])[acc.length]'hi = (n, t) := by simp
    have e2 : (vs ++ [(.string (Lx.mk n), a, b, c)])[acc.length]'hi2 = (.string (Lx.mk n), a, b, c) := by simp [← h1]
    rw [e1, e2]
    refine ⟨rfl, hn.keep hsz fun r hp hr => ?_⟩
    have hne : (Value.slice A acc.length cap).ownBlock ≠ some r := fun e => by have := hown r e; omega
    exact ⟨⟨by omega, by omega, hne4 r hr hne⟩, fun j => hcell r j hr hne⟩
theorem qruinfo : (Try.prog.info? 59).map (fun i => (i.zero, i.size, i.bytes)) = some (some (.agg #[.string ⟨#[]⟩, .int .i64 0, .string ⟨#[]⟩, .slice none 0 0]), 4, 64) := by kernel_rfl

theorem Nd.retext {P : Nat → Prop} {W : World} {k : Nat} {tx : List UInt8} {l : List Tree} {x y z : Value} (h : Nd P W (.node k [] l) x y z) : Nd P W (.node k tx l) x (.string (Lx.mk tx)) z := by
  cases h with
  | mk _ _ _ A cap r a b c hA hcap hc hk => exact .mk k tx l A cap r a b c hA hcap hc hk
/-- Within node: n's box, the result's block, out's. -/
structure NoQ (W0 : World) (k : Nat) (tx : ByteArray) (z : Value) (W : World) (A : Option Addr) (cp : Nat) (acc : List Tree) : Prop where
  box : W.heap[W0.heap.size]? = some (.cells #[.int .i64 k, .string tx, z] 63 (0, 0))
  res : W.heap[W0.heap.size + 1]? = some (.cells #[.int .i64 0, .string ⟨#[]⟩, .slice none 0 0] 57 (0, 0))
  out : W.heap[W0.heap.size + 2]? = some (.cells #[.int .i64 k, .string tx, .slice A acc.length cp] 57 (0, 0))
  items : QItems (W0.heap.size + 3) (W0.heap.size + 2) W A cp acc
  below : Below W0.heap.size W0 W
section
variable {W0 W W' : World} {k : Nat} {tx : ByteArray} {z : Value} {A : Option Addr} {cp : Nat} {acc : List Tree}
theorem NoQ.call (h : NoQ W0 k tx z W A cp acc) (b : Below W.heap.size W W') : NoQ W0 k tx z W' A cp acc :=
  ⟨(b.block _ (heap_lt h.box)).trans h.box, (b.block _ (heap_lt h.res)).trans h.res, (b.block _ (heap_lt h.out)).trans h.out, h.items.keep b.size fun q _ _ hq => b.block q hq, h.below.trans (b.mono h.below.size)⟩
theorem NoQ.snoc {W1 w4 : World} {lo : Nat} {t : Tree} {x y z' : Value} {o : Obj} {gq cp' : Nat} (h : NoQ W0 k tx z W1 A cp acc) (hlo : W0.heap.size + 3 ≤ lo) (hlo2 : lo ≤ W1.heap.size) (hown : ∀ k, (Value.slice A acc.length cp).ownBlock = some k → k < lo) (hn : Nd (fun q => lo ≤ q) W1 t x y z')
    (hown4 : ∀ vs : List (Value × Value × Value), W1.ownsRow (W0.heap.size + 3) 57 3 (.slice A acc.length cp) acc.length (cells3 vs) → w4.ownsRow (W0.heap.size + 3) 57 3 (.slice (some ⟨gq, 0, none⟩) (acc.length + 1) cp') (acc.length + 1) (cells3 vs ++ [x, y, z']))
    (hgr : (W1.alloc o).grownBy w4 (Value.slice A acc.length cp).ownBlock) (hat : (Value.slice A acc.length cp).ownBlock = some gq ∨ gq = (W1.alloc o).heap.size) :
    NoQ W0 k tx z (w4.setCell ⟨W0.heap.size + 2, 2, none⟩ (.slice (some ⟨gq, 0, none⟩) (acc.length + 1) cp')) (some ⟨gq, 0, none⟩) cp' (acc ++ [t]) := by
  have hb := h.items.own_lt
  have hit := h.items.snoc hlo (by omega) hown hlo2 hn hown4 hgr hat
  have keep : ∀ k, k < W0.heap.size + 3 → w4.heap[k]? = W1.heap[k]? := fun k hk =>
    (hgr.block k (by simp; omega) (fun e => by have := (hb k e.symm).2; omega)).trans (heap_alloc_old W1 o (by omega))
  have hset : ∀ b, W0.heap.size + 2 ≠ b → (w4.setCell ⟨W0.heap.size + 2, 2, none⟩ (.slice (some ⟨gq, 0, none⟩) (acc.length + 1) cp')).heap[b]? = w4.heap[b]? := fun b hb => Lx.set_keep w4 2 _ hb
  have hszs : (w4.setCell ⟨W0.heap.size + 2, 2, none⟩ (.slice (some ⟨gq, 0, none⟩) (acc.length + 1) cp')).heap.size = w4.heap.size := by simp [World.setCell]
  have hsz4 : W1.heap.size + 1 ≤ w4.heap.size := by have := hgr.size; simp at this; omega
  refine ⟨((hset _ (by omega)).trans (keep _ (by omega))).trans h.box, ((hset _ (by omega)).trans (keep _ (by omega))).trans h.res, ?_, hit.keep (by rw [hszs]; exact Nat.le_refl _) (fun q _ hq _ => hset q (fun e => hq e.symm)), ?_⟩
  · have := Lx.heap_set ((keep _ (by omega)).trans h.out) 2 (.slice (some ⟨gq, 0, none⟩) (acc.length + 1) cp')
    rw [show (acc ++ [t]).length = acc.length + 1 by simp]
    exact this
  · have b0 : Below W0.heap.size W1 w4 := ⟨hgr.os, hgr.tape, hgr.output, by omega, fun q hq => keep q (by omega)⟩
    exact (h.below.trans b0).setCell (Nat.le_add_right _ _) _
theorem NoQ.facts (h : NoQ W0 k tx z W A cp acc) : W.cell? ⟨W0.heap.size, 0, none⟩ = some (.int .i64 k) ∧ W.cell? ⟨W0.heap.size, 1, none⟩ = some (.string tx) ∧ W.cell? ⟨W0.heap.size, 2, none⟩ = some z ∧
    W.cell? ⟨W0.heap.size + 2, 0, none⟩ = some (.int .i64 k) ∧ W.cell? ⟨W0.heap.size + 2, 1, none⟩ = some (.string tx) ∧ W.cell? ⟨W0.heap.size + 2, 2, none⟩ = some (.slice A acc.length cp) ∧ (∀ j, W.frozen? ⟨W0.heap.size + 2, j, none⟩ = false) ∧
    W.cell? ⟨W0.heap.size + 1, 0, none⟩ = some (.int .i64 0) ∧ W.cell? ⟨W0.heap.size + 1, 1, none⟩ = some (.string ⟨#[]⟩) ∧ W.cell? ⟨W0.heap.size + 1, 2, none⟩ = some (.slice none 0 0) ∧ ∀ j, W.frozen? ⟨W0.heap.size + 1, j, none⟩ = false :=
  ⟨cell_of_row _ _ 0 _ _ (0, 0) h.box, cell_of_row _ _ 1 _ _ (0, 0) h.box, cell_of_row _ _ 2 _ _ (0, 0) h.box, cell_of_row _ _ 0 _ _ (0, 0) h.out, cell_of_row _ _ 1 _ _ (0, 0) h.out, cell_of_row _ _ 2 _ _ (0, 0) h.out, frozen_qrow h.out, cell_of_row _ _ 0 _ _ (0, 0) h.res, cell_of_row _ _ 1 _ _ (0, 0) h.res, cell_of_row _ _ 2 _ _ (0, 0) h.res, frozen_qrow h.res⟩
end
/-- The same node, in memory of the call's own. -/
def Copied (t : Tree) (W : World) (e : Ending) (w' : World) : Prop := ∃ x y z, e = .returned (.agg #[x, y, z]) ∧ Nd (fun q => W.heap.size ≤ q) w' t x y z ∧ Below W.heap.size W w'
theorem no_done {W0 W : World} {k : Nat} {tx : List UInt8} {z : Value} {A : Option Addr} {cp : Nat} {acc : List Tree} (h : NoQ W0 k (Lx.mk tx) z W A cp acc) :
    Copied (.node k tx acc) W0 (.returned (.agg #[.int .i64 k, .string (Lx.mk tx), .slice A acc.length cp])) (((W.setCell ⟨W0.heap.size + 1, 0, none⟩ (.int .i64 k)).setCell ⟨W0.heap.size + 1, 1, none⟩ (.string (Lx.mk tx))).setCell ⟨W0.heap.size + 1, 2, none⟩ (.slice A acc.length cp)) := by
  refine ⟨_, _, _, rfl, ((h.items.node k).retext (tx := tx)).keep (by rw [res_size]; exact Nat.le_refl _) fun q hq _ => ⟨by omega, fun j => ?_⟩, ((h.below.setCell (Nat.le_add_right _ _) _).setCell (Nat.le_add_right _ _) _).setCell (Nat.le_add_right _ _) _⟩
  have := res_keep W (b := W0.heap.size + 1) (k := q) (.int .i64 k) (.string (Lx.mk tx)) (.slice A acc.length cp) (by omega)
  unfold World.cell?
  simp only [this]

set_option maxHeartbeats 8000000 in
theorem node_copy {t : Tree} (h : SmW t) : ∀ (P : Nat → Prop) (W : World) (x y z : Value), Nd P W t x y z → Calls Try.prog 24 #[.agg #[x, y, z]] W (Copied t W) := by
  induction h with
  | mk k tx l htx hlen hl ih =>
    intro P W x y z hnd
    obtain ⟨rfl, rfl, hz⟩ := hnd.open_
    obtain ⟨A0, cap0, r, a, b, c, rfl, hcap, h3, h4⟩ := hz
    have hdone := fun (W' : World) (A : Option Addr) (cp : Nat) (acc : List Tree) (h : NoQ W k (Lx.mk tx) (.slice A0 l.length cap0) W' A cp acc) => no_done h
    obtain ⟨s, hs1⟩ : ∃ s, s = Lx.mk tx := ⟨_, rfl⟩
    simp only [← hs1] at hdone ⊢
    have HD := Lib.hid hdone
    have hN : NoQ W k s (.slice A0 l.length cap0) (((W.alloc (.cells #[.int .i64 k, .string s, .slice A0 l.length cap0] 63)).alloc (.cells #[.int .i64 0, .string ⟨#[]⟩, .slice none 0 0] 57)).alloc (.cells #[.int .i64 k, .string s, .slice none 0 0] 57)) none 0 [] := by
      have b1 : Below W.heap.size W (W.alloc (.cells #[.int .i64 k, .string s, .slice A0 l.length cap0] 63)) := (Below.refl _ _).alloc (Nat.le_refl _) _
      have b2 := b1.alloc (by simp) (.cells #[.int .i64 0, .string ⟨#[]⟩, .slice none 0 0] 57)
      have b3 := b2.alloc (by simp; omega) (.cells #[.int .i64 k, .string s, .slice none 0 0] 57)
      have n1 := heap_alloc_new W (.cells #[.int .i64 k, .string s, .slice A0 l.length cap0] 63)
      have n2 := heap_alloc_new (W.alloc (.cells #[.int .i64 k, .string s, .slice A0 l.length cap0] 63)) (.cells #[.int .i64 0, .string ⟨#[]⟩, .slice none 0 0] 57)
      rw [heap_size_alloc'] at n2
      have n3 := heap_alloc_new ((W.alloc (.cells #[.int .i64 k, .string s, .slice A0 l.length cap0] 63)).alloc (.cells #[.int .i64 0, .string ⟨#[]⟩, .slice none 0 0] 57)) (.cells #[.int .i64 k, .string s, .slice none 0 0] 57)
      rw [heap_size_alloc', heap_size_alloc'] at n3
      exact ⟨(heap_alloc_old _ _ (by simp; omega)).trans ((heap_alloc_old _ _ (by simp)).trans n1), (heap_alloc_old _ _ (by simp)).trans n2, n3, QItems.nil _ _ _, b3⟩
    have HN := Lib.hid hN
    obtain ⟨n, hn1⟩ : ∃ n, n = l.length := ⟨_, rfl⟩
    rw [← hn1] at HN hcap h3 hlen ⊢
    simp only [← hn1] at HD
    have HN1 := Lib.hid hn1
    have H3 := Lib.hid h3
    have H4 := Lib.hid h4
    have HI := Lib.hid ih
    obtain ⟨i0, hi0, hz0, hz1, hz2⟩ := info_parts qninfo
    clear hN hdone hs1 h3 h4 ih hl hn1 hnd htx
    go_enter Try.func24, Try.ntmps24
    go_upto_block 0 with fail
    generalize hV : World.alloc (World.alloc (World.alloc W _) _) _ = V
    rw [hV] at HN
    clear hV
    rw [show W.heap.size + 1 + 1 = W.heap.size + 2 from rfl]
    go_wp2_with fail
    go_loopw [4] (fun i wr => ∃ (j cp : Nat) (A : Option Addr) (acc : List Tree), j ≤ n ∧ i = .int .i64 j ∧ acc = l.take j ∧ NoQ W k s (.slice A0 n cap0) wr A cp acc) (fun i _ => n - (intOf i).toNat)
    case atStart => exact ⟨0, 0, none, [], Nat.zero_le _, rfl, rfl, HN.out⟩
    case round =>
      obtain ⟨j, cp, A, acc, hj, rfl, hacc, hL⟩ := hrel
      have HAC := Lib.hid hacc
      have hal : acc.length ≤ n := by rw [hacc, List.length_take]; have := HN1.out; omega
      obtain ⟨m0, m1, m2, o0, o1, o2, of, z0, z1, z2, zf⟩ := hL.facts
      have HL := Lib.hid hL
      clear hacc hL
      by_cases hlt : j < n
      · have h1 : j < l.length := by rw [← HN1.out]; exact hlt
        obtain ⟨eA, hr, _⟩ := H3.out (by omega)
        subst eA
        obtain ⟨⟨x0, x1, x2⟩, hnd⟩ := H4.out j h1
        have HT1 := Lib.hid (show acc ++ [l[j]] = l.take (j + 1) by rw [HAC.out, List.take_succ_eq_append_getElem h1])
        have HHL := Lib.hid (show acc.length = j by rw [HAC.out, List.length_take]; omega)
        have KX := fun w (hw : Nd P w l[j] (a j) (b j) (c j)) => HI.out l[j] (List.getElem_mem h1) P w _ _ _ hw
        obtain ⟨ka, ta, Aa, na, ca, ea, eb, ec⟩ := hnd.form
        rw [ea, eb, ec] at hnd KX
        rw [ea] at x0
        rw [eb] at x1
        rw [ec] at x2
        have hbel := HL.out.below
        have y0 := (hbel.cell (p := ⟨r, j * 3, none⟩) hr).trans x0
        have y1 := (hbel.cell (p := ⟨r, j * 3 + 1, none⟩) hr).trans x1
        have y2 := (hbel.cell (p := ⟨r, j * 3 + 2, none⟩) hr).trans x2
        have HX := Lib.hid KX
        have HND := Lib.hid ((hnd.under hbel).keep (W' := wr.drew) (Q := P) (Nat.le_refl _) fun q hq _ => ⟨hq, fun _ => rfl⟩)
        have hLd : NoQ W k s (.slice (some ⟨r, 0, none⟩) n cap0) wr.drew A cp acc := ⟨HL.out.box, HL.out.res, HL.out.out, HL.out.items.keep (Nat.le_refl _) (fun _ _ _ _ => rfl), below_drew' HL.out.below⟩
        have HLD := Lib.hid hLd
        clear hLd
        have hjn : (j : Int) < (n : Int) := by omega
        have hsz := heap_lt HL.out.out
        have HSZ0 := Lib.hid hsz
        clear KX hnd ea eb ec x0 x1 x2 hbel m0 m1 o0 o1 z0 z1 z2 zf
        go_wp2_with fail
        go_region_law (first | (refine step_append_lies _ rfl (.tmp 18) (.tmp 25) 55 rfl (W.heap.size + 3) 57 i0 _ 3 48 Try.underlying55 hi0 hz0 hz1 hz2 rfl (by decide) (.slice A acc.length cp) acc.length (cells3 vs) (by simp [Act.eval]) (HV.out.alloc _) ⟨w3.heap.size, 0, none⟩ 1 1 [.int .i64 kb, .string tb, .slice Ab mb cb] (by simp [Act.eval]) rfl (Lx.row_new _ [.int .i64 kb, .string tb, .slice Ab mb cb] _ _ rfl) (by simp [Value.oneCell']) (by decide) (by unfold maxLen; omega) (by omega) (by simp; omega) _ rfl ?_; intro gq cap' w4 hown4 hgrow4 hat4 hlt4; have h4 := HL3.out.snoc (lo := wr.heap.size) HSZ0.out HS3.out (fun k hk => (HOL.out k hk).1) HN3.out (fun vs2 hv2 => by rw [owns_uniq hv2 HV.out]; exact hown4) hgrow4 hat4; have hnb4 := (hgrow4.block (W.heap.size + 2) (by simp; omega) (fun e => by have := (HL3.out.items.own_lt _ e.symm).2.2; omega)).trans ((heap_alloc_old w3 _ hnbs).trans HL3.out.out); have u2 : w4.cell? ⟨W.heap.size + 2, 2, none⟩ = some (.slice A acc.length cp) := cell_of_row _ _ 2 _ _ (0, 0) hnb4; have uf := frozen_qrow hnb4; clear hnb4; have H4 := Lib.hid h4; clear h4; clear hown4 hgrow4 hat4 hlt4) | (go_simp; go_at_call 24; refine (HX.out _ HND.out).mono ?_; rintro e w3 ⟨xa, xb, xc, rfl, hnk, hb3⟩; have hL3 := HLD.out.call hb3; obtain ⟨vs, hv1, hv2, hvx, hv4⟩ := hL3.items; have d2 : w3.cell? ⟨W.heap.size + 2, 2, none⟩ = some (.slice A acc.length cp) := hL3.facts.2.2.2.2.2.1; have hnbs := heap_lt hL3.out; have d2a := fun o : Obj => (((Below.refl w3.heap.size w3).alloc (Nat.le_refl _) o).cell (p := ⟨W.heap.size + 2, 2, none⟩) hnbs).trans d2; have hsz3 := hb3.size; obtain ⟨kb, tb, Ab, mb, cb, rfl, rfl, rfl⟩ := hnk.form; have HV := Lib.hid hv2; have HOL := Lib.hid HL.out.items.own_lt; have HL3 := Lib.hid hL3; have HN3 := Lib.hid hnk; have HS3 := Lib.hid hb3.size; clear hL3 hb3 hnk hv1 hv2 hvx hv4))
        all_goals
          go_wp2
          go_roundw
          case rel => exact ⟨j + 1, cap', some ⟨gq, 0, none⟩, acc ++ [l[j]'(by have := HN1.out; omega)], by omega, by simp, HT1.out, H4.out⟩
          case measure => simp [intOf]; omega
      · have HE := Lib.hid (show acc = l by rw [HAC.out, List.take_of_length_le (by have := HN1.out; omega)])
        have hjn : ¬ (j : Int) < (n : Int) := by omega
        have HRS := Lib.hid HL.out.res
        clear m0 m1
        go_wp2
        exact bodyPost_ret (results_cell_row rfl _ _ (W.heap.size + 1) 57 _ (0, 0) _ rfl (qres_done HRS.out _ _ _) Try.underlying57 rfl rfl) rfl (by rw [← HE.out]; exact HD.out _ _ _ _ HL.out)

/-- Within grammar: g's box, the result's block, out's. -/
structure GoQ (W0 : World) (tx : ByteArray) (z : Value) (W : World) (A : Option Addr) (cp : Nat) (acc : List Rul) : Prop where
  box : W.heap[W0.heap.size]? = some (.cells #[.string tx, z] 25 (0, 0))
  res : W.heap[W0.heap.size + 1]? = some (.cells #[.string ⟨#[]⟩, .slice none 0 0] 30 (0, 0))
  out : W.heap[W0.heap.size + 2]? = some (.cells #[.string tx, .slice A acc.length cp] 30 (0, 0))
  items : QRItems (W0.heap.size + 3) (W0.heap.size + 2) W A cp acc
  below : Below W0.heap.size W0 W
section
variable {W0 W W' : World} {tx : ByteArray} {z : Value} {A : Option Addr} {cp : Nat} {acc : List Rul}
theorem GoQ.call (h : GoQ W0 tx z W A cp acc) (b : Below W.heap.size W W') : GoQ W0 tx z W' A cp acc :=
  ⟨(b.block _ (heap_lt h.box)).trans h.box, (b.block _ (heap_lt h.res)).trans h.res, (b.block _ (heap_lt h.out)).trans h.out, h.items.keep b.size fun q _ _ hq => b.block q hq, h.below.trans (b.mono h.below.size)⟩
theorem GoQ.snoc {W1 w4 : World} {lo : Nat} {n : List UInt8} {u : ByteArray} {t : Tree} {x y z' : Value} {o : Obj} {gq cp' : Nat} (h : GoQ W0 tx z W1 A cp acc) (hu : u = Lx.mk n) (hlo : W0.heap.size + 3 ≤ lo) (hlo2 : lo ≤ W1.heap.size) (hown : ∀ k, (Value.slice A acc.length cp).ownBlock = some k → k < lo) (hn : Nd (fun q => lo ≤ q) W1 t x y z')
    (hown4 : ∀ vs : List (Value × Value × Value × Value), W1.ownsRow (W0.heap.size + 3) 59 4 (.slice A acc.length cp) acc.length (cells4 vs) → w4.ownsRow (W0.heap.size + 3) 59 4 (.slice (some ⟨gq, 0, none⟩) (acc.length + 1) cp') (acc.length + 1) (cells4 vs ++ [.string u, x, y, z']))
    (hgr : (W1.alloc o).grownBy w4 (Value.slice A acc.length cp).ownBlock) (hat : (Value.slice A acc.length cp).ownBlock = some gq ∨ gq = (W1.alloc o).heap.size) :
    GoQ W0 tx z (w4.setCell ⟨W0.heap.size + 2, 1, none⟩ (.slice (some ⟨gq, 0, none⟩) (acc.length + 1) cp')) (some ⟨gq, 0, none⟩) cp' (acc ++ [(n, t)]) := by
  subst hu
  have hb := h.items.own_lt
  have hit := h.items.snoc hlo (by omega) hown hlo2 hn hown4 hgr hat
  have keep : ∀ k, k < W0.heap.size + 3 → w4.heap[k]? = W1.heap[k]? := fun k hk =>
    (hgr.block k (by simp; omega) (fun e => by have := (hb k e.symm).2; omega)).trans (heap_alloc_old W1 o (by omega))
  have hset : ∀ b, W0.heap.size + 2 ≠ b → (w4.setCell ⟨W0.heap.size + 2, 1, none⟩ (.slice (some ⟨gq, 0, none⟩) (acc.length + 1) cp')).heap[b]? = w4.heap[b]? := fun b hb => Lx.set_keep w4 1 _ hb
  have hszs : (w4.setCell ⟨W0.heap.size + 2, 1, none⟩ (.slice (some ⟨gq, 0, none⟩) (acc.length + 1) cp')).heap.size = w4.heap.size := by simp [World.setCell]
  have hsz4 : W1.heap.size + 1 ≤ w4.heap.size := by have := hgr.size; simp at this; omega
  refine ⟨((hset _ (by omega)).trans (keep _ (by omega))).trans h.box, ((hset _ (by omega)).trans (keep _ (by omega))).trans h.res, ?_, hit.keep (by rw [hszs]; exact Nat.le_refl _) (fun q _ hq _ => hset q (fun e => hq e.symm)), ?_⟩
  · have := Lx.heap_set ((keep _ (by omega)).trans h.out) 1 (.slice (some ⟨gq, 0, none⟩) (acc.length + 1) cp')
    rw [show (acc ++ [(n, t)]).length = acc.length + 1 by simp]
    exact this
  · have b0 : Below W0.heap.size W1 w4 := ⟨hgr.os, hgr.tape, hgr.output, by omega, fun q hq => keep q (by omega)⟩
    exact (h.below.trans b0).setCell (Nat.le_add_right _ _) _
end
/-- The same grammar, in memory of the call's own. -/
def CopiedG (s : ByteArray) (l : List Rul) (W : World) (e : Ending) (w' : World) : Prop := ∃ v, e = .returned (.agg #[.string s, v]) ∧ RlsAt (fun q => W.heap.size ≤ q) w' l v ∧ Below W.heap.size W w'
theorem go_done {W0 W : World} {tx : ByteArray} {z : Value} {A : Option Addr} {cp : Nat} {acc : List Rul} (h : GoQ W0 tx z W A cp acc) :
    CopiedG tx acc W0 (.returned (.agg #[.string tx, .slice A acc.length cp])) ((W.setCell ⟨W0.heap.size + 1, 0, none⟩ (.string tx)).setCell ⟨W0.heap.size + 1, 1, none⟩ (.slice A acc.length cp)) := by
  refine ⟨_, rfl, h.items.rls.keep (by simp [World.setCell]) fun q hq _ => ⟨by omega, fun j => ?_⟩, (h.below.setCell (Nat.le_add_right _ _) _).setCell (Nat.le_add_right _ _) _⟩
  have := (Lx.set_keep (W.setCell ⟨W0.heap.size + 1, 0, none⟩ (.string tx)) 1 (.slice A acc.length cp) (show W0.heap.size + 1 ≠ q by omega)).trans (Lx.set_keep W 0 (.string tx) (show W0.heap.size + 1 ≠ q by omega))
  unfold World.cell?
  simp only [this]
theorem cell_same {w w' : World} {b : Nat} (h : w'.heap[b]? = w.heap[b]?) (j : Nat) : w'.cell? ⟨b, j, none⟩ = w.cell? ⟨b, j, none⟩ := by
  unfold World.cell?
  simp only [h]
theorem gres_done {w3 : World} {b : Nat} {u v : Value} (h : w3.heap[b]? = some (.cells #[u, v] 30 (0, 0))) (x y : Value) : ((w3.setCell ⟨b, 0, none⟩ x).setCell ⟨b, 1, none⟩ y).heap[b]? = some (.cells #[x, y] 30 (0, 0)) :=
  Lx.heap_set (Lx.heap_set h 0 _) 1 _
theorem GoQ.start (W : World) (s : ByteArray) (z : Value) : GoQ W s z (((W.alloc (.cells #[.string s, z] 25)).alloc (.cells #[.string ⟨#[]⟩, .slice none 0 0] 30)).alloc (.cells #[.string s, .slice none 0 0] 30)) none 0 [] := by
  have b1 : Below W.heap.size W (W.alloc (.cells #[.string s, z] 25)) := (Below.refl _ _).alloc (Nat.le_refl _) _
  have b2 := b1.alloc (by simp) (.cells #[.string ⟨#[]⟩, .slice none 0 0] 30)
  have b3 := b2.alloc (by simp; omega) (.cells #[.string s, .slice none 0 0] 30)
  have n1 := heap_alloc_new W (.cells #[.string s, z] 25)
  have n2 := heap_alloc_new (W.alloc (.cells #[.string s, z] 25)) (.cells #[.string ⟨#[]⟩, .slice none 0 0] 30)
  rw [heap_size_alloc'] at n2
  have n3 := heap_alloc_new ((W.alloc (.cells #[.string s, z] 25)).alloc (.cells #[.string ⟨#[]⟩, .slice none 0 0] 30)) (.cells #[.string s, .slice none 0 0] 30)
  rw [heap_size_alloc', heap_size_alloc'] at n3
  exact ⟨(heap_alloc_old _ _ (by simp; omega)).trans ((heap_alloc_old _ _ (by simp)).trans n1), (heap_alloc_old _ _ (by simp)).trans n2, n3, QRItems.nil _ _ _, b3⟩

set_option maxHeartbeats 8000000 in
theorem gram_copy (tx : List UInt8) (l : List Rul) (hlen : l.length ≤ 1048576) (hw : ∀ r ∈ l, SmW r.2) (P : Nat → Prop) (W : World) (v : Value) (h : RlsAt P W l v) : Calls Try.prog 9 #[.agg #[.string (Lx.mk tx), v]] W (CopiedG (Lx.mk tx) l W) := by
    obtain ⟨A0, cap0, r, a, b, c, rfl, hcap, h3, h4⟩ := h
    obtain ⟨s, hs1⟩ : ∃ s, s = Lx.mk tx := ⟨_, rfl⟩
    rw [← hs1]
    have hN := GoQ.start W s (.slice A0 l.length cap0)
    obtain ⟨n, hn1⟩ : ∃ n, n = l.length := ⟨_, rfl⟩
    rw [← hn1] at hN hcap h3 hlen ⊢
    have HN := Lib.hid hN
    have HN1 := Lib.hid hn1
    have H3 := Lib.hid h3
    have H4 := Lib.hid h4
    have HW := Lib.hid hw
    obtain ⟨i0, hi0, hz0, hz1, hz2⟩ := info_parts qruinfo
    clear hN hs1 h3 h4 hw hn1
    go_enter Try.func9, Try.ntmps9
    go_upto_block 0 with fail
    generalize hV : World.alloc (World.alloc (World.alloc W _) _) _ = V
    rw [hV] at HN
    clear hV
    rw [show W.heap.size + 1 + 1 = W.heap.size + 2 from rfl]
    go_wp2_with fail
    go_loopw [4] (fun i wr => ∃ (j cp : Nat) (A : Option Addr) (acc : List Rul), j ≤ n ∧ i = .int .i64 j ∧ acc = l.take j ∧ GoQ W s (.slice A0 n cap0) wr A cp acc) (fun i _ => n - (intOf i).toNat)
    case atStart => exact ⟨0, 0, none, [], Nat.zero_le _, rfl, rfl, HN.out⟩
    case round =>
      obtain ⟨j, cp, A, acc, hj, rfl, hacc, hL⟩ := hrel
      have HAC := Lib.hid hacc
      have hal : acc.length ≤ n := by rw [hacc, List.length_take]; have := HN1.out; omega
      have m1 : wr.cell? ⟨W.heap.size, 1, none⟩ = some (.slice A0 n cap0) := cell_of_row _ _ 1 _ _ (0, 0) hL.box
      have o0 : wr.cell? ⟨W.heap.size + 2, 0, none⟩ = some (.string s) := cell_of_row _ _ 0 _ _ (0, 0) hL.out
      have o1 : wr.cell? ⟨W.heap.size + 2, 1, none⟩ = some (.slice A acc.length cp) := cell_of_row _ _ 1 _ _ (0, 0) hL.out
      have HL := Lib.hid hL
      clear hacc hL
      by_cases hlt : j < n
      · have h1 : j < l.length := by rw [← HN1.out]; exact hlt
        obtain ⟨eA, hr, _⟩ := H3.out (by omega)
        subst eA
        obtain ⟨⟨w0, x0, x1, x2⟩, hnd⟩ := H4.out j h1
        have HT1 := Lib.hid (show acc ++ [(l[j].1, l[j].2)] = l.take (j + 1) by rw [HAC.out, List.take_succ_eq_append_getElem h1])
        have KX := fun w (hw : Nd P w l[j].2 (a j) (b j) (c j)) => node_copy (HW.out l[j] (List.getElem_mem h1)) P w _ _ _ hw
        obtain ⟨u, hu⟩ : ∃ u, u = Lx.mk l[j].1 := ⟨_, rfl⟩
        rw [← hu] at w0
        have HU := Lib.hid hu
        obtain ⟨ka, ta, Aa, na, ca, ea, eb, ec⟩ := hnd.form
        rw [ea, eb, ec] at hnd KX
        rw [ea] at x0; rw [eb] at x1; rw [ec] at x2
        have hbel := HL.out.below
        have y := (hbel.cell (p := ⟨r, j * 4, none⟩) hr).trans w0
        have y0 := (hbel.cell (p := ⟨r, j * 4 + 1, none⟩) hr).trans x0
        have y1 := (hbel.cell (p := ⟨r, j * 4 + 2, none⟩) hr).trans x1
        have y2 := (hbel.cell (p := ⟨r, j * 4 + 3, none⟩) hr).trans x2
        have HR0 := Lib.hid hr
        have HX := Lib.hid KX
        have HND := Lib.hid ((hnd.under hbel).keep (W' := wr.drew) (Q := P) (Nat.le_refl _) fun q hq _ => ⟨hq, fun _ => rfl⟩)
        have hLd : GoQ W s (.slice (some ⟨r, 0, none⟩) n cap0) wr.drew A cp acc := ⟨HL.out.box, HL.out.res, HL.out.out, HL.out.items.keep (Nat.le_refl _) (fun _ _ _ _ => rfl), below_drew' HL.out.below⟩
        have HLD := Lib.hid hLd
        have hjn : (j : Int) < (n : Int) := by omega
        have hsz := heap_lt HL.out.out
        have HSZ0 := Lib.hid hsz
        clear hLd KX hnd ea eb ec x0 x1 x2 hbel o0 w0 hu
        have HKW := Lib.hid (fun (w' : World) (hw : ∀ b, b < W.heap.size + 1 → w'.heap[b]? = wr.heap[b]?) => (⟨(cell_same (hw _ (by omega)) _).trans m1, (cell_same (hw _ (by have := HR0.out; omega)) _).trans y, (cell_same (hw _ (by have := HR0.out; omega)) _).trans y0, (cell_same (hw _ (by have := HR0.out; omega)) _).trans y1, (cell_same (hw _ (by have := HR0.out; omega)) _).trans y2⟩ : w'.cell? ⟨W.heap.size, 1, none⟩ = some (.slice (some ⟨r, 0, none⟩) n cap0) ∧ w'.cell? ⟨r, j * 4, none⟩ = some (.string u) ∧ w'.cell? ⟨r, j * 4 + 1, none⟩ = some (.int .i64 ka) ∧ w'.cell? ⟨r, j * 4 + 2, none⟩ = some (.string ta) ∧ w'.cell? ⟨r, j * 4 + 3, none⟩ = some (.slice Aa na ca)))
        go_wp2_with fail
        refine wp_region_noPanic ?_
        refine wp_region_held_drew (S := (fun W' => W'.cell? ⟨W.heap.size, 1, none⟩ = some (.slice (some ⟨r, 0, none⟩) n cap0) ∧ W'.cell? ⟨r, j * 4, none⟩ = some (.string u) ∧ W'.cell? ⟨r, j * 4 + 1, none⟩ = some (.int .i64 ka) ∧ W'.cell? ⟨r, j * 4 + 2, none⟩ = some (.string ta) ∧ W'.cell? ⟨r, j * 4 + 3, none⟩ = some (.slice Aa na ca))) (by kernel_rfl) ?_ (fun hHeld => ?_)
        · exact ⟨m1, y, y0, y1, y2⟩
        refine wpAnyH_take (i := 0) (v := ?_) rfl (by kernel_rfl) (by kernel_rfl) (by kernel_rfl) (fun _ _ _ h => h) (Or.inl ⟨by rfl, ?_⟩) (by assumption) ?_
        rotate_left
        · intro w hSw
          try dsimp only at hSw
          go_simp
          try with_reducible rfl
        try simp only [Act.put, List.setIfInBounds_toArray, List.set_cons_zero, List.set_cons_succ]
        refine wpAnyH_take (i := 2) (v := ?_) rfl (by kernel_rfl) (by kernel_rfl) (by kernel_rfl) (fun _ _ _ h => h) (Or.inl ⟨by rfl, ?_⟩) (by assumption) ?_
        rotate_left
        · intro w hSw
          try dsimp only at hSw
          go_simp
          try with_reducible rfl
        try simp only [Act.put, List.setIfInBounds_toArray, List.set_cons_zero, List.set_cons_succ]
        refine wpAnyH_take (i := 3) (v := ?_) rfl (by kernel_rfl) (by kernel_rfl) (by kernel_rfl) (fun _ _ _ h => h) (Or.inl ⟨by rfl, ?_⟩) (by assumption) ?_
        rotate_left
        · intro w hSw
          try dsimp only at hSw
          go_simp
          try with_reducible rfl
        try simp only [Act.put, List.setIfInBounds_toArray, List.set_cons_zero, List.set_cons_succ]
        refine wpAnyH_take (i := 4) (v := ?_) rfl (by kernel_rfl) (by kernel_rfl) (by kernel_rfl) (fun _ _ _ h => h) (Or.inl ⟨by rfl, ?_⟩) (by assumption) ?_
        rotate_left
        · intro w hSw
          try dsimp only at hSw
          go_simp
          try with_reducible rfl
        try simp only [Act.put, List.setIfInBounds_toArray, List.set_cons_zero, List.set_cons_succ]
        refine wpAnyH_take (i := 5) (v := ?_) rfl (by kernel_rfl) (by kernel_rfl) (by kernel_rfl) (fun _ _ _ h => h) (Or.inl ⟨by rfl, ?_⟩) (by assumption) ?_
        rotate_left
        · intro w hSw
          try dsimp only at hSw
          go_simp
          try with_reducible rfl
        try simp only [Act.put, List.setIfInBounds_toArray, List.set_cons_zero, List.set_cons_succ]
        refine wpAnyH_take (i := 6) (v := ?_) rfl (by kernel_rfl) (by kernel_rfl) (by kernel_rfl) (fun _ _ _ h => h) (Or.inl ⟨by rfl, ?_⟩) (by assumption) ?_
        rotate_left
        · intro w hSw
          try dsimp only at hSw
          go_simp
          try with_reducible rfl
        try simp only [Act.put, List.setIfInBounds_toArray, List.set_cons_zero, List.set_cons_succ]
        refine wpAnyH_take (i := 7) (v := ?_) rfl (by kernel_rfl) (by kernel_rfl) (by kernel_rfl) (fun _ _ _ h => h) (Or.inl ⟨by rfl, ?_⟩) (by assumption) ?_
        rotate_left
        · intro w hSw
          try dsimp only at hSw
          go_simp
          try with_reducible rfl
        try simp only [Act.put, List.setIfInBounds_toArray, List.set_cons_zero, List.set_cons_succ]
        refine wpAnyH_take (i := 8) (v := ?_) rfl (by kernel_rfl) (by kernel_rfl) (by kernel_rfl) (fun _ _ _ h => h) (Or.inl ⟨by rfl, ?_⟩) (by assumption) ?_
        rotate_left
        · intro w hSw
          try dsimp only at hSw
          go_simp
          try with_reducible rfl
        try simp only [Act.put, List.setIfInBounds_toArray, List.set_cons_zero, List.set_cons_succ]
        refine wpAnyH_take (i := 9) (v := ?_) rfl (by kernel_rfl) (by kernel_rfl) (by kernel_rfl) (fun _ _ _ h => h) (Or.inl ⟨by rfl, ?_⟩) (by assumption) ?_
        rotate_left
        · intro w hSw
          try dsimp only at hSw
          go_simp
          try with_reducible rfl
        try simp only [Act.put, List.setIfInBounds_toArray, List.set_cons_zero, List.set_cons_succ]
        refine wpAnyH_take (i := 10) (v := ?_) rfl (by kernel_rfl) (by kernel_rfl) (by kernel_rfl) (fun _ _ _ h => h) (Or.inl ⟨by rfl, ?_⟩) (by assumption) ?_
        rotate_left
        · intro w hSw
          try dsimp only at hSw
          go_simp
          try with_reducible rfl
        try simp only [Act.put, List.setIfInBounds_toArray, List.set_cons_zero, List.set_cons_succ]
        refine wpAnyH_take (i := 11) (v := ?_) rfl (by kernel_rfl) (by kernel_rfl) (by kernel_rfl) (fun _ _ _ h => h) (Or.inl ⟨by rfl, ?_⟩) (by assumption) ?_
        rotate_left
        · intro w hSw
          try dsimp only at hSw
          go_simp
          try with_reducible rfl
        try simp only [Act.put, List.setIfInBounds_toArray, List.set_cons_zero, List.set_cons_succ]
        refine wpAnyH_take (i := 12) (v := ?_) rfl (by kernel_rfl) (by kernel_rfl) (by kernel_rfl) (fun _ _ _ h => h) (Or.inl ⟨by rfl, ?_⟩) (by assumption) ?_
        rotate_left
        · intro w hSw
          try dsimp only at hSw
          go_simp
          try with_reducible rfl
        try simp only [Act.put, List.setIfInBounds_toArray, List.set_cons_zero, List.set_cons_succ]
        refine wpAnyH_take (i := 13) (v := ?_) rfl (by kernel_rfl) (by kernel_rfl) (by kernel_rfl) (fun _ _ _ h => h) (Or.inl ⟨by rfl, ?_⟩) (by assumption) ?_
        rotate_left
        · intro w hSw
          try dsimp only at hSw
          go_simp
          try with_reducible rfl
        try simp only [Act.put, List.setIfInBounds_toArray, List.set_cons_zero, List.set_cons_succ]
        refine wpAnyH_ready (rs := [1, 14]) (by kernel_rfl) (by simp) ?_
        refine AllReadyH.cons rfl (fun K hK => ?_) ?_
        · go_simp
          refine hK.out _ _ (by assumption) (fun hHeld => ?_)
          clear hK K
          try simp only [Act.put, List.setIfInBounds_toArray, List.set_cons_zero, List.set_cons_succ]
          refine wpAnyH_ready (rs := [14]) (by kernel_rfl) (by simp) ?_
          refine AllReadyH.cons rfl (fun K hK => ?_) AllReadyH.nil
          go_simp
          go_at_call 24
          refine (HX.out _ HND.out).mono ?_
          rintro e w3 ⟨xa, xb, xc, rfl, hnk, hb3⟩
          have hL3 := HLD.out.call hb3
          obtain ⟨vs, hv1, hv2, hvx, hv4⟩ := hL3.items
          have d2 : w3.cell? ⟨W.heap.size + 2, 1, none⟩ = some (.slice A acc.length cp) := cell_of_row _ _ 1 _ _ (0, 0) hL3.out
          have hnbs := heap_lt hL3.out
          have d2a := fun o : Obj => (((Below.refl w3.heap.size w3).alloc (Nat.le_refl _) o).cell (p := ⟨W.heap.size + 2, 1, none⟩) hnbs).trans d2
          have hsz3 : wr.heap.size ≤ w3.heap.size := hb3.size
          obtain ⟨kb, tb, Ab, mb, cb, rfl, rfl, rfl⟩ := hnk.form
          have HK3 := Lib.hid (fun b (hb : b < W.heap.size + 1) => hb3.block b (show b < wr.heap.size by have := HSZ0.out; omega))
          have HL3S := Lib.hid (fun b (hb : b < W.heap.size + 1) => (show b < w3.heap.size by omega))
          have HV := Lib.hid hv2
          have HOL := Lib.hid HL.out.items.own_lt
          have HL3 := Lib.hid hL3
          have HN3 := Lib.hid hnk
          have HS3 := Lib.hid hb3.size
          clear hL3 hb3 hnk hv1 hv2 hvx hv4
          refine hK.out _ _ (HKW.out _ HK3.out) (fun hHeld => ?_)
          clear hK K
          try simp only [Act.put, List.setIfInBounds_toArray, List.set_cons_zero, List.set_cons_succ]
          refine wpAnyH_take (i := 15) (v := ?_) rfl (by kernel_rfl) (by kernel_rfl) (by kernel_rfl) (fun _ _ _ h => h) (Or.inl ⟨by rfl, ?_⟩) (by assumption) ?_
          rotate_left
          · intro w hSw
            try dsimp only at hSw
            go_simp
            try with_reducible rfl
          try simp only [Act.put, List.setIfInBounds_toArray, List.set_cons_zero, List.set_cons_succ]
          refine wpAnyH_ready (rs := [16]) (by kernel_rfl) (by simp) ?_
          refine AllReadyH.cons rfl (fun K hK => ?_) AllReadyH.nil
          go_simp
          refine hK.out _ _ (HKW.out _ (fun b hb => (heap_alloc_old _ _ (HL3S.out b hb)).trans (HK3.out b hb))) (fun hHeld => ?_)
          clear hK K
          try simp only [Act.put, List.setIfInBounds_toArray, List.set_cons_zero, List.set_cons_succ]
          refine wpAnyH_ready (rs := [17]) (by kernel_rfl) (by simp) ?_
          refine AllReadyH.cons rfl (fun K hK => ?_) AllReadyH.nil
          refine step_append_lies _ (by rfl) (.tmp 16) (.tmp 31) 28 (by rfl) (W.heap.size + 3) 59 i0 _ 4 64 Try.underlying28 hi0 hz0 hz1 hz2 rfl (by decide) (.slice A acc.length cp) acc.length (cells4 vs) (by simp [Act.eval]) (HV.out.alloc _) ⟨w3.heap.size, 0, none⟩ 1 1 [.string u, .int .i64 kb, .string tb, .slice Ab mb cb] (by simp [Act.eval]) rfl (Lx.row_new _ [.string u, .int .i64 kb, .string tb, .slice Ab mb cb] _ _ rfl) (by simp [Value.oneCell']) (by decide) (by unfold maxLen; omega) (by omega) (by simp; omega) _ rfl ?_
          intro gq cap' w4 hown4 hgrow4 hat4 hlt4
          have h4 := HL3.out.snoc (lo := wr.heap.size) HU.out HSZ0.out HS3.out (fun k hk => (HOL.out k hk).1) HN3.out (fun vs2 hv2 => by rw [owns_uniq hv2 HV.out]; exact hown4) hgrow4 hat4
          have hnb4 := (hgrow4.block (W.heap.size + 2) (by simp; omega) (fun e => by have := (HL3.out.items.own_lt _ e.symm).2.2; omega)).trans ((heap_alloc_old w3 _ hnbs).trans HL3.out.out)
          have HK4 := Lib.hid (fun b (hb : b < W.heap.size + 1) => (hgrow4.block b (by simp; omega) (fun e => by have := (HL3.out.items.own_lt _ e.symm).2.1; omega)).trans ((heap_alloc_old w3 _ (HL3S.out b hb)).trans (HK3.out b hb)))
          have u2 : w4.cell? ⟨W.heap.size + 2, 1, none⟩ = some (.slice A acc.length cp) := cell_of_row _ _ 1 _ _ (0, 0) hnb4
          have uf := frozen_qrow hnb4
          clear hnb4
          have H4 := Lib.hid h4
          clear h4
          clear hown4 hgrow4 hat4 hlt4
          refine hK.out _ _ (HKW.out _ HK4.out) (fun hHeld => ?_)
          clear hK K
          try simp only [Act.put, List.setIfInBounds_toArray, List.set_cons_zero, List.set_cons_succ]
          refine wpAnyH_take (i := 18) (v := ?_) rfl (by kernel_rfl) (by kernel_rfl) (by kernel_rfl) (fun _ _ _ h => h) (Or.inl ⟨by rfl, ?_⟩) (by assumption) ?_
          rotate_left
          · intro w hSw
            try dsimp only at hSw
            go_simp
            try with_reducible rfl
          try simp only [Act.put, List.setIfInBounds_toArray, List.set_cons_zero, List.set_cons_succ]
          refine wpAnyH_ready (rs := [19]) (by kernel_rfl) (by simp) ?_
          refine AllReadyH.cons rfl (fun K hK => ?_) AllReadyH.nil
          go_simp
          refine hK.out _ _ (HKW.out _ (fun b hb => (Lx.set_keep _ 1 _ (by omega)).trans (HK4.out b hb))) (fun hHeld => ?_)
          clear hK K
          try simp only [Act.put, List.setIfInBounds_toArray, List.set_cons_zero, List.set_cons_succ]
          refine wpAnyH_done (by kernel_rfl) ?_ _
          refine NoPanic.normal ?_
          go_wp2
          go_roundw
          case rel => exact ⟨j + 1, cap', some ⟨gq, 0, none⟩, acc ++ [((l[j]'(by have := HN1.out; omega)).1, (l[j]'(by have := HN1.out; omega)).2)], by omega, by simp, HT1.out, H4.out⟩
          case measure => simp [intOf]; omega
        refine AllReadyH.cons rfl (fun K hK => ?_) AllReadyH.nil
        · go_simp
          go_at_call 24
          refine (HX.out _ HND.out).mono ?_
          rintro e w3 ⟨xa, xb, xc, rfl, hnk, hb3⟩
          have hL3 := HLD.out.call hb3
          obtain ⟨vs, hv1, hv2, hvx, hv4⟩ := hL3.items
          have d2 : w3.cell? ⟨W.heap.size + 2, 1, none⟩ = some (.slice A acc.length cp) := cell_of_row _ _ 1 _ _ (0, 0) hL3.out
          have hnbs := heap_lt hL3.out
          have d2a := fun o : Obj => (((Below.refl w3.heap.size w3).alloc (Nat.le_refl _) o).cell (p := ⟨W.heap.size + 2, 1, none⟩) hnbs).trans d2
          have hsz3 : wr.heap.size ≤ w3.heap.size := hb3.size
          obtain ⟨kb, tb, Ab, mb, cb, rfl, rfl, rfl⟩ := hnk.form
          have HK3 := Lib.hid (fun b (hb : b < W.heap.size + 1) => hb3.block b (show b < wr.heap.size by have := HSZ0.out; omega))
          have HL3S := Lib.hid (fun b (hb : b < W.heap.size + 1) => (show b < w3.heap.size by omega))
          have HV := Lib.hid hv2
          have HOL := Lib.hid HL.out.items.own_lt
          have HL3 := Lib.hid hL3
          have HN3 := Lib.hid hnk
          have HS3 := Lib.hid hb3.size
          clear hL3 hb3 hnk hv1 hv2 hvx hv4
          refine hK.out _ _ (HKW.out _ HK3.out) (fun hHeld => ?_)
          clear hK K
          try simp only [Act.put, List.setIfInBounds_toArray, List.set_cons_zero, List.set_cons_succ]
          refine wpAnyH_take (i := 15) (v := ?_) rfl (by kernel_rfl) (by kernel_rfl) (by kernel_rfl) (fun _ _ _ h => h) (Or.inl ⟨by rfl, ?_⟩) (by assumption) ?_
          rotate_left
          · intro w hSw
            try dsimp only at hSw
            go_simp
            try with_reducible rfl
          try simp only [Act.put, List.setIfInBounds_toArray, List.set_cons_zero, List.set_cons_succ]
          refine wpAnyH_ready (rs := [1, 16]) (by kernel_rfl) (by simp) ?_
          refine AllReadyH.cons rfl (fun K hK => ?_) ?_
          · go_simp
            refine hK.out _ _ (HKW.out _ HK3.out) (fun hHeld => ?_)
            clear hK K
            try simp only [Act.put, List.setIfInBounds_toArray, List.set_cons_zero, List.set_cons_succ]
            refine wpAnyH_ready (rs := [16]) (by kernel_rfl) (by simp) ?_
            refine AllReadyH.cons rfl (fun K hK => ?_) AllReadyH.nil
            go_simp
            refine hK.out _ _ (HKW.out _ (fun b hb => (heap_alloc_old _ _ (HL3S.out b hb)).trans (HK3.out b hb))) (fun hHeld => ?_)
            clear hK K
            try simp only [Act.put, List.setIfInBounds_toArray, List.set_cons_zero, List.set_cons_succ]
            refine wpAnyH_ready (rs := [17]) (by kernel_rfl) (by simp) ?_
            refine AllReadyH.cons rfl (fun K hK => ?_) AllReadyH.nil
            refine step_append_lies _ (by rfl) (.tmp 16) (.tmp 31) 28 (by rfl) (W.heap.size + 3) 59 i0 _ 4 64 Try.underlying28 hi0 hz0 hz1 hz2 rfl (by decide) (.slice A acc.length cp) acc.length (cells4 vs) (by simp [Act.eval]) (HV.out.alloc _) ⟨w3.heap.size, 0, none⟩ 1 1 [.string u, .int .i64 kb, .string tb, .slice Ab mb cb] (by simp [Act.eval]) rfl (Lx.row_new _ [.string u, .int .i64 kb, .string tb, .slice Ab mb cb] _ _ rfl) (by simp [Value.oneCell']) (by decide) (by unfold maxLen; omega) (by omega) (by simp; omega) _ rfl ?_
            intro gq cap' w4 hown4 hgrow4 hat4 hlt4
            have h4 := HL3.out.snoc (lo := wr.heap.size) HU.out HSZ0.out HS3.out (fun k hk => (HOL.out k hk).1) HN3.out (fun vs2 hv2 => by rw [owns_uniq hv2 HV.out]; exact hown4) hgrow4 hat4
            have hnb4 := (hgrow4.block (W.heap.size + 2) (by simp; omega) (fun e => by have := (HL3.out.items.own_lt _ e.symm).2.2; omega)).trans ((heap_alloc_old w3 _ hnbs).trans HL3.out.out)
            have HK4 := Lib.hid (fun b (hb : b < W.heap.size + 1) => (hgrow4.block b (by simp; omega) (fun e => by have := (HL3.out.items.own_lt _ e.symm).2.1; omega)).trans ((heap_alloc_old w3 _ (HL3S.out b hb)).trans (HK3.out b hb)))
            have u2 : w4.cell? ⟨W.heap.size + 2, 1, none⟩ = some (.slice A acc.length cp) := cell_of_row _ _ 1 _ _ (0, 0) hnb4
            have uf := frozen_qrow hnb4
            clear hnb4
            have H4 := Lib.hid h4
            clear h4
            clear hown4 hgrow4 hat4 hlt4
            refine hK.out _ _ (HKW.out _ HK4.out) (fun hHeld => ?_)
            clear hK K
            try simp only [Act.put, List.setIfInBounds_toArray, List.set_cons_zero, List.set_cons_succ]
            refine wpAnyH_take (i := 18) (v := ?_) rfl (by kernel_rfl) (by kernel_rfl) (by kernel_rfl) (fun _ _ _ h => h) (Or.inl ⟨by rfl, ?_⟩) (by assumption) ?_
            rotate_left
            · intro w hSw
              try dsimp only at hSw
              go_simp
              try with_reducible rfl
            try simp only [Act.put, List.setIfInBounds_toArray, List.set_cons_zero, List.set_cons_succ]
            refine wpAnyH_ready (rs := [19]) (by kernel_rfl) (by simp) ?_
            refine AllReadyH.cons rfl (fun K hK => ?_) AllReadyH.nil
            go_simp
            refine hK.out _ _ (HKW.out _ (fun b hb => (Lx.set_keep _ 1 _ (by omega)).trans (HK4.out b hb))) (fun hHeld => ?_)
            clear hK K
            try simp only [Act.put, List.setIfInBounds_toArray, List.set_cons_zero, List.set_cons_succ]
            refine wpAnyH_done (by kernel_rfl) ?_ _
            refine NoPanic.normal ?_
            go_wp2
            go_roundw
            case rel => exact ⟨j + 1, cap', some ⟨gq, 0, none⟩, acc ++ [((l[j]'(by have := HN1.out; omega)).1, (l[j]'(by have := HN1.out; omega)).2)], by omega, by simp, HT1.out, H4.out⟩
            case measure => simp [intOf]; omega
          refine AllReadyH.cons rfl (fun K hK => ?_) AllReadyH.nil
          · go_simp
            refine hK.out _ _ (HKW.out _ (fun b hb => (heap_alloc_old _ _ (HL3S.out b hb)).trans (HK3.out b hb))) (fun hHeld => ?_)
            clear hK K
            try simp only [Act.put, List.setIfInBounds_toArray, List.set_cons_zero, List.set_cons_succ]
            refine wpAnyH_ready (rs := [1]) (by kernel_rfl) (by simp) ?_
            refine AllReadyH.cons rfl (fun K hK => ?_) AllReadyH.nil
            go_simp
            refine hK.out _ _ (HKW.out _ (fun b hb => (heap_alloc_old _ _ (HL3S.out b hb)).trans (HK3.out b hb))) (fun hHeld => ?_)
            clear hK K
            try simp only [Act.put, List.setIfInBounds_toArray, List.set_cons_zero, List.set_cons_succ]
            refine wpAnyH_ready (rs := [17]) (by kernel_rfl) (by simp) ?_
            refine AllReadyH.cons rfl (fun K hK => ?_) AllReadyH.nil
            refine step_append_lies _ (by rfl) (.tmp 16) (.tmp 31) 28 (by rfl) (W.heap.size + 3) 59 i0 _ 4 64 Try.underlying28 hi0 hz0 hz1 hz2 rfl (by decide) (.slice A acc.length cp) acc.length (cells4 vs) (by simp [Act.eval]) (HV.out.alloc _) ⟨w3.heap.size, 0, none⟩ 1 1 [.string u, .int .i64 kb, .string tb, .slice Ab mb cb] (by simp [Act.eval]) rfl (Lx.row_new _ [.string u, .int .i64 kb, .string tb, .slice Ab mb cb] _ _ rfl) (by simp [Value.oneCell']) (by decide) (by unfold maxLen; omega) (by omega) (by simp; omega) _ rfl ?_
            intro gq cap' w4 hown4 hgrow4 hat4 hlt4
            have h4 := HL3.out.snoc (lo := wr.heap.size) HU.out HSZ0.out HS3.out (fun k hk => (HOL.out k hk).1) HN3.out (fun vs2 hv2 => by rw [owns_uniq hv2 HV.out]; exact hown4) hgrow4 hat4
            have hnb4 := (hgrow4.block (W.heap.size + 2) (by simp; omega) (fun e => by have := (HL3.out.items.own_lt _ e.symm).2.2; omega)).trans ((heap_alloc_old w3 _ hnbs).trans HL3.out.out)
            have HK4 := Lib.hid (fun b (hb : b < W.heap.size + 1) => (hgrow4.block b (by simp; omega) (fun e => by have := (HL3.out.items.own_lt _ e.symm).2.1; omega)).trans ((heap_alloc_old w3 _ (HL3S.out b hb)).trans (HK3.out b hb)))
            have u2 : w4.cell? ⟨W.heap.size + 2, 1, none⟩ = some (.slice A acc.length cp) := cell_of_row _ _ 1 _ _ (0, 0) hnb4
            have uf := frozen_qrow hnb4
            clear hnb4
            have H4 := Lib.hid h4
            clear h4
            clear hown4 hgrow4 hat4 hlt4
            refine hK.out _ _ (HKW.out _ HK4.out) (fun hHeld => ?_)
            clear hK K
            try simp only [Act.put, List.setIfInBounds_toArray, List.set_cons_zero, List.set_cons_succ]
            refine wpAnyH_take (i := 18) (v := ?_) rfl (by kernel_rfl) (by kernel_rfl) (by kernel_rfl) (fun _ _ _ h => h) (Or.inl ⟨by rfl, ?_⟩) (by assumption) ?_
            rotate_left
            · intro w hSw
              try dsimp only at hSw
              go_simp
              try with_reducible rfl
            try simp only [Act.put, List.setIfInBounds_toArray, List.set_cons_zero, List.set_cons_succ]
            refine wpAnyH_ready (rs := [19]) (by kernel_rfl) (by simp) ?_
            refine AllReadyH.cons rfl (fun K hK => ?_) AllReadyH.nil
            go_simp
            refine hK.out _ _ (HKW.out _ (fun b hb => (Lx.set_keep _ 1 _ (by omega)).trans (HK4.out b hb))) (fun hHeld => ?_)
            clear hK K
            try simp only [Act.put, List.setIfInBounds_toArray, List.set_cons_zero, List.set_cons_succ]
            refine wpAnyH_done (by kernel_rfl) ?_ _
            refine NoPanic.normal ?_
            go_wp2
            go_roundw
            case rel => exact ⟨j + 1, cap', some ⟨gq, 0, none⟩, acc ++ [((l[j]'(by have := HN1.out; omega)).1, (l[j]'(by have := HN1.out; omega)).2)], by omega, by simp, HT1.out, H4.out⟩
            case measure => simp [intOf]; omega
      · have HE := Lib.hid (show acc = l by rw [HAC.out, List.take_of_length_le (by have := HN1.out; omega)])
        have hjn : ¬ (j : Int) < (n : Int) := by omega
        have HRS := Lib.hid HL.out.res
        have g0 : wr.cell? ⟨W.heap.size + 1, 0, none⟩ = some (.string ⟨#[]⟩) := cell_of_row _ _ 0 _ _ (0, 0) HL.out.res
        have g1 : wr.cell? ⟨W.heap.size + 1, 1, none⟩ = some (.slice none 0 0) := cell_of_row _ _ 1 _ _ (0, 0) HL.out.res
        have gf := frozen_qrow HL.out.res
        go_wp2
        exact bodyPost_ret (results_cell_row rfl _ _ (W.heap.size + 1) 30 _ (0, 0) _ rfl (gres_done HRS.out _ _) Try.underlying30 rfl rfl) rfl (by rw [← HE.out]; exact go_done HL.out)

end Go.Proofs.Ytakihbjfkpebcaa.Sx
