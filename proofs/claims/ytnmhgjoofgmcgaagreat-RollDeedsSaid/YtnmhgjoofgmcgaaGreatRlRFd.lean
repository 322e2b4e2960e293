/-
  The walks of the plain scanner's letter and rest.
  Layer 18: the document's Find.
-/
import Derived.Test.YtnmhgjoofgmcgaaGreatRlGood
import Derived.Test.YtnmhgjoofgmcgaaGreatRlHd2

namespace Go.Proofs.YtnmhgjoofgmcgaaGreat.Lx
open Go.RowKit
set_option maxRecDepth 100000

theorem rletter_any (c : Nat) (w : World) :
    Calls Tryz.prog 100 #[.int .u8 c] w fun e w' => e = .returned (.bool (letterN c)) ∧ w = w' := by
  go_enter Tryz.func100, Tryz.ntmps100
  go_wp2
  all_goals (go_ret; refine ⟨congrArg (fun b => Ending.returned (Value.bool b)) (?_ : _ = letterN c), rfl⟩; rw [Bool.eq_iff_iff]; simp [letterN]; omega)

theorem rrest_any (c : Nat) (w : World) :
    Calls Tryz.prog 101 #[.int .u8 c] w fun e w' => e = .returned (.bool (nameN c)) ∧ w = w' := by
  have K1 := Lib.hid (rletter_any c)
  go_enter Tryz.func101, Tryz.ntmps101
  go_wp2_with fail
  refine (K1.out _).mono ?_
  rintro e w1 ⟨rfl, rfl⟩
  cases hl : letterN c <;> simp only [letterN, decide_eq_true_eq, decide_eq_false_iff_not] at hl
  all_goals go_wp2
  all_goals (go_ret; refine ⟨congrArg (fun b => Ending.returned (Value.bool b)) (?_ : _ = nameN c), rfl⟩; rw [Bool.eq_iff_iff]; simp [nameN]; omega)
set_option maxHeartbeats 1000000 in
theorem rgood_any (s : ByteArray) (w : World) (hs : s.size ≤ 9223372036854775807) :
    Calls Tryz.prog 64 #[.string s] w fun e w' => e = .returned (.bool (goodB (bs s))) ∧ w = w' := by
  obtain ⟨B, hB⟩ : ∃ B, B = goodB (bs s) := ⟨_, rfl⟩
  rw [← hB]
  have HB := Lib.hid hB
  clear hB
  go_enter Tryz.func64, Tryz.ntmps64
  go_wp2
  go_loop [3] (fun i => ∃ k : Nat, k ≤ s.size ∧ i = .int .i64 k ∧ (∀ j, (h : j < s.size) → j < k → nameN s[j].toNat = true) ∧ (0 < k → ∀ h : 0 < s.size, letterN s[0].toNat = true)) (fun i => s.size - (intOf i).toNat)
  case atStart => exact ⟨0, by omega, rfl, fun j _ h => absurd h (by omega), fun h => absurd h (by omega)⟩
  case round =>
    obtain ⟨k, hk, rfl, hall, hlet⟩ := hrel
    have HA := Lib.hid hall
    have HL := Lib.hid hlet
    clear hall hlet
    by_cases hks : k < s.size
    · have K1 := Lib.hid (rletter_any s[k].toNat)
      have K2 := Lib.hid (rrest_any s[k].toNat)
      by_cases hk0 : k = 0
      · subst hk0
        cases hl : letterN s[0].toNat
        · have hb := good_bad s 0 hks (.inl ⟨rfl, hl⟩)
          have HF := Lib.hid hb
          clear hb
          go_wp2_with fail
          refine (K1.out _).mono ?_
          rintro e w1 ⟨rfl, rfl⟩
          rw [hl]
          go_wp2
          go_ret
          exact ⟨by rw [HB.out, HF.out]; rfl, rfl⟩
        · go_wp2_with fail
          refine (K1.out _).mono ?_
          rintro e w1 ⟨rfl, rfl⟩
          rw [hl]
          go_wp2_with fail
          refine (K2.out _).mono ?_
          rintro e w1 ⟨rfl, rfl⟩
          have hn := letter_name hl
          rw [hn]
          go_wp2
          go_round
          case rel =>
            refine ⟨1, by omega, rfl, ?_, fun _ _ => hl⟩
            intro j hj hj1
            have : j = 0 := by omega
            subst this; exact hn
          case measure => simp [intOf]; omega
      · have hk0' : ((k : Int) == 0) = false := by rw [beq_eq_false_iff_ne]; omega
        cases hn : nameN s[k].toNat
        · have hb := good_bad s k hks (.inr hn)
          have HF := Lib.hid hb
          clear hb
          go_wp2_with fail
          refine (K2.out _).mono ?_
          rintro e w1 ⟨rfl, rfl⟩
          rw [hn]
          go_wp2
          go_ret
          exact ⟨by rw [HB.out, HF.out]; rfl, rfl⟩
        · go_wp2_with fail
          refine (K2.out _).mono ?_
          rintro e w1 ⟨rfl, rfl⟩
          rw [hn]
          go_wp2
          go_round
          case rel =>
            refine ⟨k + 1, by omega, by go_num, ?_, fun _ => HL.out (by omega)⟩
            intro j hj hj1
            by_cases e : j = k
            · subst e; exact hn
            · exact HA.out j hj (by omega)
          case measure => simp [intOf]; omega
    · have : k = s.size := by omega
      subst this
      have hb := good_end s (fun j h => HA.out j h h) (fun h => HL.out h h)
      have HF := Lib.hid hb
      clear hb
      go_wp2
      all_goals
        go_ret
        refine ⟨congrArg (fun b => Ending.returned (Value.bool b)) (?_ : _ = B), rfl⟩
        rw [HB.out, HF.out, Bool.eq_iff_iff]
        simp
        try omega

end Go.Proofs.YtnmhgjoofgmcgaaGreat.Lx

namespace Go.Proofs.YtnmhgjoofgmcgaaGreat.Rl
open Go.RowKit
open Fx (StrsAt)
set_option maxRecDepth 100000
set_option linter.unusedSimpArgs false
set_option linter.unusedVariables false
/-- The first member of a name. -/
def findL (l : List Mem) (nm : ByteArray) : Option Mem := l.find? fun m => decide (m.name = nm)
def nilM : Mem := ⟨⟨#[]⟩, 0, 0⟩
theorem bytes_eq (a b : ByteArray) : (a.toList == b.toList) = decide (a = b) := by
  rw [ByteArray.toList_eq, ByteArray.toList_eq, Bool.eq_iff_iff, beq_iff_eq, decide_eq_true_iff]
  exact ⟨fun h => ByteArray.ext (Array.toList_inj.1 h), fun h => by rw [h]⟩
set_option maxHeartbeats 4000000 in
theorem rfind_any (r : Rol) (nm : ByteArray) (P : Nat → Prop) (W : World) (v : Value) (h : RlAt P W r v) (hn : r.ms.length ≤ 4096) :
    Calls Tryz.prog 13 #[v, .string nm] W fun e w' => e = .returned (.tuple #[.agg #[.string ((findL r.ms nm).getD nilM).name, .int .i64 ((findL r.ms nm).getD nilM).role, .int .i64 ((findL r.ms nm).getD nilM).quota], .bool (findL r.ms nm).isSome]) ∧ Below W.heap.size W w' := by
  obtain ⟨Am, cm, Ac, cc, rfl, hms, hcs⟩ := h.form
  clear h hcs
  obtain ⟨l, hl⟩ : ∃ l, l = r.ms := ⟨_, rfl⟩
  rw [← hl] at hms hn ⊢
  clear hl
  obtain ⟨m, hmm⟩ : ∃ m, m = r.cs.length := ⟨_, rfl⟩
  rw [← hmm]
  clear hmm
  obtain ⟨n, hn1⟩ : ∃ n, n = l.length := ⟨_, rfl⟩
  rw [← hn1] at hms hn ⊢
  obtain ⟨V, hV⟩ : ∃ V, V = (W.alloc (.cells #[.slice Am n cm, .slice Ac m cc] 31)).alloc (.cells #[.string ⟨#[]⟩, .int .i64 0, .int .i64 0] 48) := ⟨_, rfl⟩
  have hb : Below W.heap.size W V := by rw [hV]; exact ((Below.refl _ W).alloc (Nat.le_refl _) _).alloc (by simp) _
  have hx0 : V.heap[W.heap.size]? = some (.cells #[.slice Am n cm, .slice Ac m cc] 31 (0, 0)) := by rw [hV]; exact (heap_alloc_old _ _ (by simp)).trans (heap_alloc_new W _)
  have hx1 : V.heap[W.heap.size + 1]? = some (.cells #[.string ⟨#[]⟩, .int .i64 0, .int .i64 0] 48 (0, 0)) := by
    rw [hV]; have := heap_alloc_new (W.alloc (.cells #[.slice Am n cm, .slice Ac m cc] 31)) (.cells #[.string ⟨#[]⟩, .int .i64 0, .int .i64 0] 48); simpa using this
  have x0 := cell_of_row _ _ 0 _ _ (0, 0) hx0
  obtain ⟨A, cap, b, he, hcap, _, hA, hc⟩ := RowAt.under hms hb
  rw [← hn1] at he hcap hA
  injection he with he1 he2 he3
  subst he1
  subst he3
  have hy1 := hx1
  have r0 := cell_of_row _ _ 0 _ _ (0, 0) hy1
  have r1 := cell_of_row _ _ 1 _ _ (0, 0) hy1
  have r2 := cell_of_row _ _ 2 _ _ (0, 0) hy1
  have g0 := Gn.frozen_row hy1 0
  have g1 := Gn.frozen_row hy1 1
  have g2 := Gn.frozen_row hy1 2
  have HRS := Lib.hid (fun a b c => Gn.heap_set (Gn.heap_set (Gn.heap_set hy1 0 a) 1 b) 2 c)
  have HBE := Lib.hid (fun a b c => ((hb.setCell (p := ⟨W.heap.size + 1, 0, none⟩) (by simp) a).setCell (p := ⟨W.heap.size + 1, 1, none⟩) (by simp) b).setCell (p := ⟨W.heap.size + 1, 2, none⟩) (by simp) c)
  have HV := Lib.hid hV
  have HB := Lib.hid hb
  have HN := Lib.hid hn1
  have HA := Lib.hid hA
  have HC := Lib.hid (fun i hi k v h => hc i hi k v h)
  have HEQ := Lib.hid bytes_eq
  clear hms hn1 hA hc hcap he2 hV hb hx0 hx1 hy1
  go_enter Tryz.func13, Tryz.ntmps13
  go_wp2_with fail
  go_loopw [6] (fun i wr => ∃ j : Nat, j ≤ n ∧ i = .int .i64 j ∧ wr = V ∧ findL (l.take j) nm = none) (fun i _ => n - (intOf i).toNat)
  case atStart => exact ⟨0, Nat.zero_le _, rfl, HV.out.symm, rfl⟩
  case round =>
    obtain ⟨j, hj, rfl, rfl, hno⟩ := hrel
    have HNO := Lib.hid hno
    clear hno
    by_cases hjn : j < n
    · have hjn2 : (j : Int) < (n : Int) := by omega
      have hjl : j < l.length := by rw [← HN.out]; exact hjn
      obtain ⟨rfl, hb, _⟩ := HA.out (by omega)
      obtain ⟨x, hx⟩ : ∃ x, x = l[j] := ⟨_, rfl⟩
      have c0 := HC.out j hjl 0 (.string x.name) (by rw [hx]; rfl)
      have c1 := HC.out j hjl 1 (.int .i64 x.role) (by rw [hx]; rfl)
      have c2 := HC.out j hjl 2 (.int .i64 x.quota) (by rw [hx]; rfl)
      rw [Nat.add_zero] at c0
      have HT := Lib.hid (show l.take (j + 1) = l.take j ++ [x] by rw [hx]; exact List.take_succ_eq_append_getElem hjl)
      have HD := Lib.hid (show l = l.take j ++ x :: l.drop (j + 1) by rw [hx, ← List.drop_eq_getElem_cons hjl, List.take_append_drop])
      clear hx hjl
      by_cases hq : x.name = nm
      · have e1 : (x.name.toList == nm.toList) = true := by rw [HEQ.out, decide_eq_true hq]
        have HF := Lib.hid (show findL l nm = some x by
          have := HNO.out
          unfold findL at this ⊢
          rw [HD.out, List.find?_append, this, Option.none_or, List.find?_cons, decide_eq_true hq])
        clear hq
        go_wp2_with fail
        rw [HF.out]
        refine bodyPost_ret (results_ct (P := Tryz.prog) rfl _ _ (W.heap.size + 1) 48 _ (0, 0) _ _ rfl rfl (HRS.out _ _ _) Tryz.underlying48 rfl (by kernel_rfl)) rfl ?_
        exact ⟨rfl, HBE.out _ _ _⟩
      · have e1 : (x.name.toList == nm.toList) = false := by rw [HEQ.out, decide_eq_false hq]
        have HF := Lib.hid (show findL (l.take (j + 1)) nm = none by
          have := HNO.out
          unfold findL at this ⊢
          rw [HT.out, List.find?_append, this, Option.none_or, List.find?_cons, decide_eq_false hq]
          rfl)
        clear hq
        go_wp2
        go_roundw
        case rel => exact ⟨j + 1, by omega, by go_num, trivial, HF.out⟩
        case measure => simp [intOf]; omega
    · have hjn2 : ¬ (j : Int) < (n : Int) := by omega
      have hje : j = n := by omega
      subst hje
      have HF := Lib.hid (show findL l nm = none by have := HNO.out; rw [HN.out, List.take_length] at this; exact this)
      go_wp2_with fail
      rw [HF.out]
      refine bodyPost_ret (results_ct (P := Tryz.prog) rfl _ _ (W.heap.size + 1) 48 _ (0, 0) _ _ rfl rfl (HRS.out _ _ _) Tryz.underlying48 rfl (by kernel_rfl)) rfl ?_
      exact ⟨rfl, HBE.out _ _ _⟩
end Go.Proofs.YtnmhgjoofgmcgaaGreat.Rl
