/-
  The walk of the document's Step.
-/
import Derived.Test.YtlkijnglpllcdaaFxRfStM
namespace Go.Proofs.Ytlkijnglpllcdaa.Fx
open Go.RowKit
set_option maxRecDepth 100000
set_option linter.unusedSimpArgs false
set_option linter.unusedVariables false

set_option maxHeartbeats 8000000 in
theorem stepref_any (g : PG) (hS : Snd g) (N : List Bool) (hN : N.length = g.names.length) (P R : Nat → Prop) (W : World) (v u : Value) (h : PgAt P W g v) (hu : BoolsAt R W N u) (a : Nat) (b : Int) :
    Calls Try.prog 36 #[v, u, .int .i64 a, .int .i64 b] W fun e w' => e = .returned (.bool (decide (b ∈ goS (loneL N) g.prods a))) ∧ Below W.heap.size W w' := by
  obtain ⟨An, At_, Ap, cn, ct, cp, rfl, _, _, hP⟩ := h.open_
  obtain ⟨Nu, cu, bu, rfl, _, hu3, hu4⟩ := hu
  have hbb : Below W.heap.size W (W.alloc (.cells #[.int .i64 g.start, .int .i64 g.rules, .slice An g.names.length cn, .slice At_ g.terms.length ct, .slice Ap g.prods.length cp] 33)) := (Below.refl _ _).alloc (Nat.le_refl _) _
  have hbx := heap_alloc_new W (.cells #[.int .i64 g.start, .int .i64 g.rules, .slice An g.names.length cn, .slice At_ g.terms.length ct, .slice Ap g.prods.length cp] 33)
  obtain ⟨n, hn⟩ : ∃ n, n = g.names.length := ⟨_, rfl⟩
  obtain ⟨np, hnp⟩ : ∃ np, np = g.prods.length := ⟨_, rfl⟩
  have hn1 : 1 ≤ n := by have := hS.start; omega
  have hn2 : n ≤ 256 := by have := hS.few.1; omega
  have hnp2 : np ≤ 256 := by have := hS.few.2.2; omega
  rw [← hn, ← hnp] at hbx hbb
  rw [← hnp] at hP
  rw [← hn] at hN
  have hu5 : ∀ i, i < n → W.cell? ⟨bu, i, none⟩ = some (.bool (N.getD i false)) := fun i hi => by
    rw [hu4 i (by omega), List.getD_eq_getElem?_getD, List.getElem?_eq_getElem (by omega)]; rfl
  obtain ⟨eU, hub, _⟩ := hu3 (by omega)
  subst eU
  rw [hN]
  rw [← hn, ← hnp]
  obtain ⟨lt, hlt⟩ : ∃ lt, lt = g.terms.length := ⟨_, rfl⟩
  rw [← hlt] at hbx hbb ⊢
  obtain ⟨st, hst⟩ : ∃ st, st = g.start := ⟨_, rfl⟩
  rw [← hst] at hbx hbb ⊢
  obtain ⟨ru, hru⟩ : ∃ ru, ru = g.rules := ⟨_, rfl⟩
  rw [← hru] at hbx hbb ⊢
  have HS := Lib.hid hS
  have HP := Lib.hid hP
  have HNN := Lib.hid hn
  have HNP := Lib.hid hnp
  have HBX := Lib.hid hbx
  have HBB := Lib.hid hbb
  have HU := Lib.hid hu5
  clear h hP hbb hbx hS hn hnp hlt hst hru hu3 hu4 hu5 hN
  obtain ⟨z, hz⟩ : ∃ z, z = decide (b ∈ goS (loneL N) g.prods a) := ⟨_, rfl⟩
  rw [← hz]
  have HZ := Lib.hid hz
  clear hz
  go_enter Try.func36, Try.ntmps36
  go_wp2_with fail
  have c4 := cell_of_row _ _ 4 _ _ (0, 0) HBX.out
  have hubV : bu < (W.alloc (.cells #[.int .i64 st, .int .i64 ru, .slice An n cn, .slice At_ lt ct, .slice Ap np cp] 33)).heap.size := by simp; omega
  have HUV := Lib.hid (fun i (hi : i < n) => (HBB.out.cell (p := ⟨bu, i, none⟩) hub).trans (HU.out i hi))
  have HPV := Lib.hid (HP.out.under HBB.out)
  generalize hV : World.alloc W _ = V
  rw [hV] at HBX HBB c4 HUV HPV hubV
  clear hV HP HU hubV
  go_loopw [9] (fun i wr => ∃ k : Nat, k ≤ np ∧ i = .int .i64 k ∧ Hid (NoneUp N g.prods a b k) ∧ wr = V) (fun i _ => np - (intOf i).toNat)
  case atStart => exact ⟨0, Nat.zero_le _, rfl, Lib.hid (fun j _ hj => absurd hj (by omega)), rfl⟩
  case round =>
    obtain ⟨i, hi, rfl, HNO, rfl⟩ := hrel
    by_cases hlt : i < np
    · have hlt2 : (i : Int) < (np : Int) := by omega
      have h1 : i < g.prods.length := by rw [← HNP.out]; exact hlt
      obtain ⟨A', cap', bb, f, e1, _, e3, e4⟩ := HPV.out
      injection e1 with e1 e6 e5
      subst e1
      subst e5
      obtain ⟨eA, hr, _⟩ := e3 (by omega)
      subst eA
      obtain ⟨x0, x1, xi⟩ := e4 i h1
      have hmem : g.prods[i] ∈ g.prods := List.getElem_mem h1
      have hsh := HS.out.short _ hmem
      have hkn := HS.out.known _ hmem
      rw [← HNN.out] at hkn
      obtain ⟨p, hp⟩ : ∃ p, p = g.prods[i] := ⟨_, rfl⟩
      have HPE := Lib.hid hp
      rw [← hp] at x0 xi hmem hsh hkn
      obtain ⟨q, hq⟩ : ∃ q, q = p.left := ⟨_, rfl⟩
      rw [← hq] at x0
      have HQ := Lib.hid hq
      obtain ⟨Ax, cx, bx, hx, _, hx3, hx4⟩ := xi
      rw [hx] at x1
      obtain ⟨m, hm⟩ : ∃ m, m = p.right.length := ⟨_, rfl⟩
      rw [← hm] at x1 hx3 hsh
      have HX3 := Lib.hid hx3
      have HX4 := Lib.hid hx4
      have HM := Lib.hid hm
      have HKN := Lib.hid hkn
      have HMEM := Lib.hid hmem
      have HUP := Lib.hid (fun (hh : q = (a : Int) → ¬ ∃ k, AloneAt N p.right b k) => (show NoneUp N g.prods a b (i + 1) from fun j hj hji hl => by
        by_cases e : j = i
        · subst e
          rw [← HPE.out] at hl ⊢
          exact hh (HQ.out.trans hl)
        · exact HNO.out j hj (by omega) hl))
      clear e6 e3 e4 hx hx3 hx4 hp hmem hkn hm hq
      have HG := Lib.hid (fun j (hj : j < m) => (show p.right.getD j 0 = p.right[j]'(by have := HM.out; omega) by rw [List.getD_eq_getElem?_getD, List.getElem?_eq_getElem (by have := HM.out; omega)]; rfl))
      by_cases hqa : q = (a : Int)
      · subst hqa
        have eqa : ((a : Int) == (a : Int)) = true := by simp
        go_wp2_with fail
        go_loopw [11] (fun kk w5 => ∃ k : Nat, k ≤ m ∧ kk = .int .i64 k ∧ Hid (∀ j, j < k → ¬ AloneAt N p.right b j) ∧ w5 = wr) (fun kk _ => m - (intOf kk).toNat)
        case atStart => exact ⟨0, Nat.zero_le _, rfl, Lib.hid (fun j hj => absurd hj (by omega)), rfl⟩
        case round =>
          obtain ⟨k, hk, rfl, HNK, rfl⟩ := hrel
          by_cases hkm : k < m
          · have hkm2 : (k : Int) < (m : Int) := by omega
            have hkl : k < p.right.length := by rw [← HM.out]; exact hkm
            obtain ⟨eX, hxb, _⟩ := HX3.out (by omega)
            subst eX
            have qk := HX4.out k hkl
            rw [← HG.out k hkm] at qk
            obtain ⟨e0, he0⟩ : ∃ e0, e0 = (p.right.getD k 0 == b) := ⟨_, rfl⟩
            have HE0 := Lib.hid he0
            obtain ⟨rk, hrk⟩ : ∃ rk, rk = p.right.getD k 0 := ⟨_, rfl⟩
            rw [← hrk] at qk he0
            have heq : (rk == b) = e0 := he0.symm
            clear hrk he0
            go_wp2_with fail
            go_loopw [12, 13] (fun ok jj w6 => ∃ j : Nat, j ≤ m ∧ jj = .int .i64 j ∧ ok = .bool (e0 && okJ N p.right k j) ∧ w6 = wr) (fun _ jj _ => m - (intOf jj).toNat)
            case atStart => exact ⟨0, Nat.zero_le _, rfl, by rw [show okJ N p.right k 0 = true from rfl, Bool.and_true], rfl⟩
            case round =>
              obtain ⟨j, hj, rfl, rfl, rfl⟩ := hrel
              obtain ⟨oj, hoj⟩ : ∃ oj, oj = (e0 && okJ N p.right k j) := ⟨_, rfl⟩
              rw [← hoj]
              have HOJ := Lib.hid hoj
              clear hoj
              by_cases hjm : j < m
              · have hjm2 : (j : Int) < (m : Int) := by omega
                have hjl : j < p.right.length := by rw [← HM.out]; exact hjm
                have qj := HX4.out j hjl
                have hks := HKN.out _ (List.getElem_mem hjl)
                rw [← HG.out j hjm] at qj hks
                obtain ⟨s, hs⟩ : ∃ s, s = p.right.getD j 0 := ⟨_, rfl⟩
                have HNX := Lib.hid (show (e0 && okJ N p.right k (j + 1)) = (oj && (decide (j = k) || !fullB N s)) by rw [okJ_succ, HOJ.out, hs, Bool.and_assoc])
                rw [← hs] at qj hks
                clear hs
                cases oj
                · go_wp2_with fail
                  go_roundw
                  case rel => exact ⟨j + 1, by omega, by simp, by rw [HNX.out]; rfl, trivial⟩
                  case measure => simp [intOf]; omega
                · by_cases hjk : j = k
                  · have ejk : ((j : Int) == (k : Int)) = true := by rw [beq_iff_eq]; omega
                    have HF := Lib.hid (show (e0 && okJ N p.right k (j + 1)) = true by rw [HNX.out, decide_eq_true hjk]; rfl)
                    clear hjk
                    go_wp2_with fail
                    go_roundw
                    case rel => exact ⟨j + 1, by omega, by simp, by rw [HF.out], trivial⟩
                    case measure => simp [intOf]; omega
                  · have ejk : ((j : Int) == (k : Int)) = false := by rw [beq_eq_false_iff_ne]; omega
                    by_cases hs0 : s < 0
                    · have hs1 : ¬ s ≥ 0 := by omega
                      have HF := Lib.hid (show (e0 && okJ N p.right k (j + 1)) = false by rw [HNX.out, decide_eq_false hjk]; unfold fullB; rw [decide_eq_true hs0]; rfl)
                      go_wp2_with fail
                      go_roundw
                      case rel => exact ⟨j + 1, by omega, by simp, by rw [HF.out], trivial⟩
                      case measure => simp [intOf]; omega
                    · obtain ⟨t, ht⟩ : ∃ t : Nat, s = (t : Int) := ⟨s.toNat, by omega⟩
                      subst ht
                      have htn : t < n := by omega
                      have htn2 : (t : Int) < (n : Int) := by omega
                      have yt := HUV.out t htn
                      obtain ⟨ot, hot⟩ : ∃ ot, ot = N.getD t false := ⟨_, rfl⟩
                      rw [← hot] at yt
                      have hs1 : (t : Int) ≥ 0 := by omega
                      have HF := Lib.hid (show (e0 && okJ N p.right k (j + 1)) = ot by rw [HNX.out, decide_eq_false hjk]; unfold fullB; rw [decide_eq_false (by omega), show ((t : Int).toNat) = t from rfl, ← hot]; simp)
                      clear hot hs0
                      go_wp2_with fail
                      go_roundw
                      case rel => exact ⟨j + 1, by omega, by simp, by rw [HF.out], trivial⟩
                      case measure => simp [intOf]; omega
              · have hje : m = j := by omega
                subst hje
                have hjm2 : ¬ ((m : Nat) : Int) < ((m : Nat) : Int) := by omega
                have hal : oj = true ↔ AloneAt N p.right b k := by rw [HOJ.out, HE0.out, HM.out]; exact okJ_all hkl
                cases oj
                · have HN2 := Lib.hid (show ∀ j, j < k + 1 → ¬ AloneAt N p.right b j from fun j hj => by
                    by_cases e : j = k
                    · subst e; intro hh; have := hal.2 hh; cases this
                    · exact HNK.out j (by omega))
                  clear hal
                  go_wp2_with fail
                  go_roundw
                  case rel => exact ⟨k + 1, by omega, by simp, HN2, trivial⟩
                  case measure => simp [intOf]; omega
                · have HY := Lib.hid (show z = true by rw [HZ.out, decide_eq_true_iff]; exact (step_is N g.prods a b).2 ⟨p, HMEM.out, HQ.out.symm, k, hal.1 rfl⟩)
                  clear hal
                  go_wp2_with fail
                  go_ret
                  exact ⟨by rw [HY.out]; rfl, HBB.out⟩
          · have hke : m = k := by omega
            subst hke
            have hkm2 : ¬ ((m : Nat) : Int) < ((m : Nat) : Int) := by omega
            have HN2 := Lib.hid (HUP.out (fun _ ⟨j, hj⟩ => by
              obtain ⟨h5, _⟩ := id hj
              exact HNK.out j (by rw [HM.out]; exact h5) hj))
            go_wp2_with fail
            go_roundw
            case rel => exact ⟨i + 1, by omega, by simp, HN2, trivial⟩
            case measure => simp [intOf]; omega
      · have eqa : (q == (a : Int)) = false := by rw [beq_eq_false_iff_ne]; exact hqa
        have HN2 := Lib.hid (HUP.out (fun e => absurd e hqa))
        clear hqa
        go_wp2_with fail
        go_loopw [11] (fun kk w5 => kk = .int .i64 0 ∧ w5 = wr) (fun kk _ => 0)
        case atStart => exact ⟨rfl, rfl⟩
        case round =>
          obtain ⟨rfl, rfl⟩ := hrel
          go_wp2_with fail
          go_roundw
          case rel => exact ⟨i + 1, by omega, by simp, HN2, trivial⟩
          case measure => simp [intOf]; omega
    · have hke : np = i := by omega
      subst hke
      have hlt2 : ¬ ((np : Nat) : Int) < ((np : Nat) : Int) := by omega
      have HY := Lib.hid (show z = false by rw [HZ.out, decide_eq_false_iff_not]; exact step_no (by rw [← HNP.out]; exact HNO.out))
      go_wp2_with fail
      go_ret
      exact ⟨by rw [HY.out]; rfl, HBB.out⟩
end Go.Proofs.Ytlkijnglpllcdaa.Fx
