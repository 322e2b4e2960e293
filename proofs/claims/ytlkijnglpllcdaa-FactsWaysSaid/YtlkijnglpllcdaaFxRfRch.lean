/-
  The walk of the document's Reachable.
-/
import Derived.Test.YtlkijnglpllcdaaFxRfSh
namespace Go.Proofs.Ytlkijnglpllcdaa.Fx
open Go.RowKit
set_option maxRecDepth 100000
set_option linter.unusedSimpArgs false
set_option linter.unusedVariables false

/-- Within the loops: the grammar's box, the set. -/
structure RchAt (W0 : World) (g : PG) (b n st : Nat) (cs : Array Value) (W : World) (O : Nat → Bool) : Prop where
  box : W.heap[W0.heap.size]? = some (.cells cs 33 (0, 0))
  row : W.rowIs b 4 n (fun i => .bool (O i))
  ok : RchOk g O
  start : O st = true
  below : Below W0.heap.size W0 W
theorem RchAt.set {W0 W : World} {g : PG} {b n st : Nat} {cs : Array Value} {O : Nat → Bool} (h : RchAt W0 g b n st cs W O) (hb : W0.heap.size < b) (q : Nat) (hr : RchOk g (updN O q)) : RchAt W0 g b n st cs (W.setCell ⟨b, q, none⟩ (.bool true)) (updN O q) :=
  ⟨(Gn.set_keep W q _ (by omega)).trans h.box, (h.row.set q (.bool true)).congr (fun i _ => by unfold updN; split <;> rfl), hr, updN_mono O q st h.start, h.below.setCell (show W0.heap.size ≤ b by omega) _⟩

set_option maxHeartbeats 8000000 in
theorem rchref_any (g : PG) (hS : Snd g) (P : Nat → Prop) (W : World) (v : Value) (h : PgAt P W g v) :
    Calls Try.prog 19 #[v] W fun e w' => ∃ (b : Nat) (O : Nat → Bool), e = .returned (.slice (some ⟨b, 0, none⟩) g.names.length g.names.length) ∧ W.heap.size ≤ b ∧ w'.rowIs b 4 g.names.length (fun i => .bool (O i)) ∧ (∀ i, O i = true ↔ Come (goS id g.prods) [g.start] (i : Int)) ∧ Below W.heap.size W w' := by
  obtain ⟨An, At_, Ap, cn, ct, cp, rfl, hN, hT, hP⟩ := h.open_
  have hbb : Below W.heap.size W (W.alloc (.cells #[.int .i64 g.start, .int .i64 g.rules, .slice An g.names.length cn, .slice At_ g.terms.length ct, .slice Ap g.prods.length cp] 33)) := (Below.refl _ _).alloc (Nat.le_refl _) _
  have hbx := heap_alloc_new W (.cells #[.int .i64 g.start, .int .i64 g.rules, .slice An g.names.length cn, .slice At_ g.terms.length ct, .slice Ap g.prods.length cp] 33)
  obtain ⟨n, hn⟩ : ∃ n, n = g.names.length := ⟨_, rfl⟩
  obtain ⟨np, hnp⟩ : ∃ np, np = g.prods.length := ⟨_, rfl⟩
  have hn1 : 1 ≤ n := by have := hS.start; omega
  have hn2 : n ≤ 256 := by have := hS.few.1; omega
  have hnp2 : np ≤ 256 := by have := hS.few.2.2; omega
  rw [← hn, ← hnp] at hbx hbb
  rw [← hnp] at hP
  rw [← hn, ← hnp]
  obtain ⟨lt, hlt⟩ : ∃ lt, lt = g.terms.length := ⟨_, rfl⟩
  rw [← hlt] at hbx hbb ⊢
  obtain ⟨st, hst⟩ : ∃ st : Nat, g.start = (st : Int) := ⟨g.start.toNat, by have := hS.start; omega⟩
  have hstn : st < n := by have := hS.start; omega
  have HST := Lib.hid hst
  have hst2 : (st : Int) < (n : Int) := by omega
  rw [hst] at hbx hbb ⊢
  obtain ⟨ru, hru⟩ : ∃ ru, ru = g.rules := ⟨_, rfl⟩
  rw [← hru] at hbx hbb ⊢
  have HS := Lib.hid hS
  have HP := Lib.hid hP
  have HNN := Lib.hid hn
  have HNP := Lib.hid hnp
  have b2 := cell_of_row _ _ 2 _ _ (0, 0) hbx
  have hb0 := cell_of_row _ _ 0 _ _ (0, 0) hbx
  have HBX := Lib.hid hbx
  have HBB := Lib.hid hbb
  have hmg : (madeCells #[Value.bool false] n)[st]? = some (.bool false) := by simp [madeCells, hstn, Nat.mod_one]
  have hmk := run_make_row' (P := Try.prog) 38 4 (.bool false) 1 rfl binfo rfl .i64 .i64 n (by omega) (by omega)
  clear h hN hT hP hbb hbx hS hn hnp hlt hst hru
  go_enter Try.func19, Try.ntmps19
  go_wp2_with fail
  have hsz : ((madeCells #[.bool false] n).setIfInBounds st (.bool true)).size = n := by rw [Array.size_setIfInBounds, size_madeCells]
  have hrow := World.rowIs_alloc (W.alloc (.cells #[.int .i64 st, .int .i64 ru, .slice An n cn, .slice At_ lt ct, .slice Ap np cp] 33)) ((madeCells #[.bool false] n).setIfInBounds st (.bool true)) 4 (fun i => .bool (updN (fun _ => false) st i)) (fun i hi => by
    rw [hsz] at hi
    rw [Array.getElem?_setIfInBounds]
    by_cases e : st = i
    · subst e
      rw [if_pos rfl, if_pos (by rw [size_madeCells]; exact hi)]
      unfold updN; rw [if_pos rfl]
    · rw [if_neg e]
      unfold updN; rw [if_neg (fun h => e h.symm)]
      simp [madeCells, hi, Nat.mod_one])
  rw [hsz] at hrow
  have hxb := (heap_alloc_old (W.alloc (.cells #[.int .i64 st, .int .i64 ru, .slice An n cn, .slice At_ lt ct, .slice Ap np cp] 33)) (.cells ((madeCells #[.bool false] n).setIfInBounds st (.bool true)) 4) (Gn.heap_lt HBX.out)).trans HBX.out
  have HB1 := Lib.hid (HBB.out.alloc HBB.out.size (.cells ((madeCells #[.bool false] n).setIfInBounds st (.bool true)) 4))
  have hbs : W.heap.size < (W.alloc (.cells #[.int .i64 st, .int .i64 ru, .slice An n cn, .slice At_ lt ct, .slice Ap np cp] 33)).heap.size := by simp
  obtain ⟨b, hb⟩ : ∃ b, b = W.heap.size + 1 := ⟨_, rfl⟩
  have hb' : (W.alloc (.cells #[.int .i64 st, .int .i64 ru, .slice An n cn, .slice At_ lt ct, .slice Ap np cp] 33)).heap.size = b := by simp [hb]
  rw [hb'] at hrow hbs
  try rw [← hb]
  generalize hV : World.alloc (World.alloc W _) _ = V
  rw [hV] at hrow hxb HB1
  have hok0 : RchOk g (updN (fun _ => false) st) := fun i hi => by
    unfold updN at hi
    by_cases e : i = st
    · subst e; exact .base _ (by rw [HST.out]; simp)
    · rw [if_neg e] at hi; cases hi
  have hst0 : updN (fun _ => false) st st = true := by unfold updN; rw [if_pos rfl]
  have HL0 := Lib.hid (show RchAt W g b n st #[.int .i64 st, .int .i64 ru, .slice An n cn, .slice At_ lt ct, .slice Ap np cp] V (updN (fun _ => false) st) from ⟨hxb, hrow, hok0, hst0, HB1.out⟩)
  have HBS := Lib.hid hbs
  clear hV hrow hxb HB1 hb hb' hbs hmk b2 hb0 HBX HBB hsz hok0 hst0 hmg
  go_loopw [4] (fun v wr => ∃ (O : Nat → Bool) (t : Bool), v = .bool t ∧ RchAt W g b n st #[.int .i64 st, .int .i64 ru, .slice An n cn, .slice At_ lt ct, .slice Ap np cp] wr O ∧ (t = false → ∀ p ∈ g.prods, RchFx O p)) (fun v wr => ffW wr b + flg v)
  case atStart => exact ⟨_, true, rfl, HL0.out, fun h => by cases h⟩
  case round =>
    obtain ⟨O0, t, rfl, hL, hfx⟩ := hrel
    cases t
    · have HF := Lib.hid (hfx rfl)
      have HL := Lib.hid hL
      clear hL hfx
      go_wp2
      go_ret
      exact ⟨b, O0, rfl, Nat.le_of_lt HBS.out, HL.out.row, fun i => by have := rch_is HL.out.ok HF.out HST.out HL.out.start i; rwa [HST.out] at this, HL.out.below⟩
    · have HMS := Lib.hid (ffW_is hL.row)
      have HL := Lib.hid hL
      clear hL hfx HL0
      obtain ⟨wo, rfl⟩ : ∃ wo : World, wo = wr := ⟨_, rfl⟩
      go_wp2_with fail
      go_loopw [4, 5] (fun v i wq => ∃ (O : Nat → Bool) (t : Bool) (k : Nat), v = .bool t ∧ k ≤ np ∧ i = .int .i64 k ∧ RchAt W g b n st #[.int .i64 st, .int .i64 ru, .slice An n cn, .slice At_ lt ct, .slice Ap np cp] wq O ∧ PassN RchFx g.prods n O0 O k t) (fun _ i _ => np - (intOf i).toNat)
      case atStart => exact ⟨O0, false, 0, rfl, Nat.zero_le _, rfl, HL.out, fun _ => ⟨rfl, fun j _ hj => absurd hj (by omega)⟩, fun h => by cases h⟩
      case round =>
        obtain ⟨O, t, k, rfl, hk, rfl, hA, hpass⟩ := hrel
        have c4 : wr.cell? ⟨W.heap.size, 4, none⟩ = some (.slice Ap np cp) := cell_of_row _ _ 4 _ _ (0, 0) hA.box
        by_cases hlt : k < np
        · have h1 : k < g.prods.length := by rw [← HNP.out]; exact hlt
          obtain ⟨A', cap', bb, f, e1, _, e3, e4⟩ := HP.out
          injection e1 with e1 e6 e5
          subst e1
          subst e5
          obtain ⟨eA, hr, _⟩ := e3 (by omega)
          subst eA
          obtain ⟨x0, x1, xi⟩ := e4 k h1
          have hmem : g.prods[k] ∈ g.prods := List.getElem_mem h1
          obtain ⟨lf0, lf1⟩ := HS.out.left _ hmem
          have hsh := HS.out.short _ hmem
          have hkn := HS.out.known _ hmem
          rw [← HNN.out] at lf1 hkn
          obtain ⟨p, hp⟩ : ∃ p, p = g.prods[k] := ⟨_, rfl⟩
          have HPS := Lib.hid hpass
          have HPE := Lib.hid hp
          rw [← hp] at x0 xi hmem lf0 lf1 hsh hkn
          have X0 := (hA.below.cell (p := ⟨bb, k * 2, none⟩) hr).trans x0
          have X1 := (hA.below.cell (p := ⟨bb, k * 2 + 1, none⟩) hr).trans x1
          obtain ⟨q, hq⟩ : ∃ q : Nat, p.left = (q : Int) := ⟨p.left.toNat, by omega⟩
          have hqn : q < n := by omega
          have hqi2 : (q : Int) < (n : Int) := by omega
          have x0q := x0
          rw [hq] at X0 x0q
          obtain ⟨Ax, cx, bx, hx, _, hx3, hx4⟩ := xi
          rw [hx] at X1
          obtain ⟨m, hm⟩ : ∃ m, m = p.right.length := ⟨_, rfl⟩
          rw [← hm] at X1 hx3 hsh
          have HX0 := Lib.hid x0q
          have HX3 := Lib.hid hx3
          have HX4 := Lib.hid hx4
          have HM := Lib.hid hm
          have HKN := Lib.hid hkn
          have HMEM := Lib.hid hmem
          have HQ := Lib.hid hq
          have HA := Lib.hid hA
          have hlt2 : (k : Int) < (np : Int) := by omega
          clear e6 e3 e4 hx hx3 hx4 x0 x0q x1 hp hmem hkn hm hq lf0 lf1 hA hpass
          obtain ⟨wo2, rfl⟩ : ∃ wo2 : World, wo2 = wr := ⟨_, rfl⟩
          go_wp2_with fail
          go_loopw [4, 7] (fun v kk w5 => ∃ (O : Nat → Bool) (t : Bool) (j : Nat), v = .bool t ∧ j ≤ m ∧ kk = .int .i64 j ∧ RchAt W g b n st #[.int .i64 st, .int .i64 ru, .slice An n cn, .slice At_ lt ct, .slice (some ⟨bb, 0, none⟩) np cp] w5 O ∧ PassN RchFx g.prods n O0 O k t ∧ (t = false → ∀ s ∈ p.right.take j, O q = true → 0 ≤ s → O s.toNat = true)) (fun _ kk _ => m - (intOf kk).toNat)
          case atStart => exact ⟨O, t, 0, rfl, Nat.zero_le _, rfl, HA.out, HPS.out, fun _ s hs => by simp at hs⟩
          case round =>
            obtain ⟨O, t, j, rfl, hj, rfl, hA, hpass, hin⟩ := hrel
            have c4 : wr.cell? ⟨W.heap.size, 4, none⟩ = some (.slice (some ⟨bb, 0, none⟩) np cp) := cell_of_row _ _ 4 _ _ (0, 0) hA.box
            have X0 := (hA.below.cell (p := ⟨bb, k * 2, none⟩) hr).trans HX0.out
            have yq := hA.row.cell hqn
            have HA := Lib.hid hA
            have HPS := Lib.hid hpass
            have HIN := Lib.hid hin
            clear hA hpass hin
            by_cases hjm : j < m
            · have hjm2 : (j : Int) < (m : Int) := by omega
              have hjl : j < p.right.length := by rw [← HM.out]; exact hjm
              obtain ⟨eX, hxb, _⟩ := HX3.out (by omega)
              subst eX
              have q2 := (HA.out.below.cell (p := ⟨bx, j, none⟩) hxb).trans (HX4.out j hjl)
              have hsm := List.getElem_mem hjl
              have hks := HKN.out _ hsm
              have HTK := Lib.hid (show p.right.take (j + 1) = p.right.take j ++ [p.right[j]] from List.take_succ_eq_append_getElem hjl)
              obtain ⟨s, hs⟩ : ∃ s, s = p.right[j] := ⟨_, rfl⟩
              rw [← hs] at q2 hks HTK hsm
              have HSM := Lib.hid hsm
              have HNX := Lib.hid (fun (h : t = false → O q = true → 0 ≤ s → O s.toNat = true) => (show t = false → ∀ x ∈ p.right.take (j + 1), O q = true → 0 ≤ x → O x.toNat = true from fun ht x hx => by
                rw [HTK.out] at hx
                rcases List.mem_append.1 hx with hx | hx
                · exact HIN.out ht x hx
                · rw [List.mem_singleton.1 hx]; exact h ht))
              clear hs hsm
              cases hoq : O q
              · rw [hoq] at yq
                have HR := Lib.hid (HNX.out (fun _ h => by rw [hoq] at h; cases h))
                clear hoq
                go_wp2_with fail
                go_roundw
                case rel => exact ⟨O, t, j + 1, rfl, by omega, by simp, HA.out, HPS.out, HR.out⟩
                case measure => simp [intOf]; omega
              · rw [hoq] at yq
                by_cases hs0 : s < 0
                · have hs1 : ¬ s ≥ 0 := by omega
                  have HR := Lib.hid (HNX.out (fun _ _ h => by omega))
                  go_wp2_with fail
                  go_roundw
                  case rel => exact ⟨O, t, j + 1, rfl, by omega, by simp, HA.out, HPS.out, HR.out⟩
                  case measure => simp [intOf]; omega
                · obtain ⟨t2, ht⟩ : ∃ t2 : Nat, s = (t2 : Int) := ⟨s.toNat, by omega⟩
                  subst ht
                  have htn : t2 < n := by omega
                  have htn2 : (t2 : Int) < (n : Int) := by omega
                  have yt := HA.out.row.cell htn
                  have hs1 : (t2 : Int) ≥ 0 := by omega
                  cases hot : O t2
                  · rw [hot] at yt
                    have yf := HA.out.row.frozen t2
                    have HA2 := Lib.hid (HA.out.set HBS.out t2 (rch_step HA.out.ok HMEM.out HQ.out hoq HSM.out))
                    have HP2 := Lib.hid (HPS.out.less (k' := k) (cntN_upd hot n htn))
                    clear hoq hot hs0
                    go_wp2_with fail
                    go_roundw
                    case rel => exact ⟨_, true, j + 1, rfl, by omega, by simp, HA2.out, HP2.out, fun h => by cases h⟩
                    case measure => simp [intOf]; omega
                  · rw [hot] at yt
                    have HR := Lib.hid (HNX.out (fun _ _ _ => hot))
                    clear hoq hot hs0
                    go_wp2_with fail
                    go_roundw
                    case rel => exact ⟨O, t, j + 1, rfl, by omega, by simp, HA.out, HPS.out, HR.out⟩
                    case measure => simp [intOf]; omega
            · have hje : m = j := by omega
              subst hje
              have hjm2 : ¬ ((m : Nat) : Int) < ((m : Nat) : Int) := by omega
              have HT := Lib.hid (show p.right.take m = p.right by rw [HM.out, List.take_length])
              have HP2 := Lib.hid (HPS.out.same (h := h1) (fun ht => show RchFx O g.prods[k] from by
                rw [← HPE.out]
                intro ho s hs h0
                rw [HQ.out] at ho
                exact HIN.out ht s (by rw [HT.out]; exact hs) ho h0))
              go_wp2_with fail
              go_roundw
              case rel => exact ⟨O, t, k + 1, rfl, by omega, by simp, HA.out, HP2.out⟩
              case measure => simp [intOf]; omega
        · have hke : np = k := by omega
          subst hke
          have hlt2 : ¬ ((np : Nat) : Int) < ((np : Nat) : Int) := by omega
          have HPS := Lib.hid hpass
          have HA := Lib.hid hA
          have HM2 := Lib.hid (ffW_is hA.row)
          clear hpass hA
          go_wp2_with fail
          go_roundw
          case rel => exact ⟨O, t, rfl, HA.out, fun ht p hp => by
            obtain ⟨e, h2⟩ := HPS.out.1 ht
            obtain ⟨i, hi, rfl⟩ := List.getElem_of_mem hp
            rw [e]
            exact h2 i hi (by rw [HNP.out]; exact hi)⟩
          case measure =>
            rw [HMS.out, HM2.out]
            cases t
            · have := (HPS.out.1 rfl).1
              rw [this]; simp [flg]
            · have := HPS.out.2 rfl
              simp [flg]; omega
end Go.Proofs.Ytlkijnglpllcdaa.Fx
