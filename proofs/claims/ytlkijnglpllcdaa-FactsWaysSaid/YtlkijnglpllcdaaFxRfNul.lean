/-
  The walk of the document's Nullable.
-/
import Derived.Test.YtlkijnglpllcdaaFxRefM
namespace Go.Proofs.Ytlkijnglpllcdaa.Fx
open Go.RowKit
set_option maxRecDepth 100000
set_option linter.unusedSimpArgs false
set_option linter.unusedVariables false

/-- Within the loops: the grammar's box, the set. -/
structure NulAt (W0 : World) (g : PG) (b n : Nat) (cs : Array Value) (W : World) (O : Nat → Bool) : Prop where
  box : W.heap[W0.heap.size]? = some (.cells cs 33 (0, 0))
  row : W.rowIs b 4 n (fun i => .bool (O i))
  ok : NulOk g O
  below : Below W0.heap.size W0 W
theorem NulAt.set {W0 W : World} {g : PG} {b n : Nat} {cs : Array Value} {O : Nat → Bool} (h : NulAt W0 g b n cs W O) (hb : W0.heap.size < b) (q : Nat) (hr : NulOk g (updN O q)) : NulAt W0 g b n cs (W.setCell ⟨b, q, none⟩ (.bool true)) (updN O q) :=
  ⟨(Gn.set_keep W q _ (by omega)).trans h.box, (h.row.set q (.bool true)).congr (fun i _ => by unfold updN; split <;> rfl), hr, h.below.setCell (show W0.heap.size ≤ b by omega) _⟩

set_option maxHeartbeats 8000000 in
theorem nulref_any (g : PG) (hS : Snd g) (P : Nat → Prop) (W : World) (v : Value) (h : PgAt P W g v) :
    Calls Try.prog 15 #[v] W fun e w' => ∃ (b : Nat) (O : Nat → Bool), e = .returned (.slice (some ⟨b, 0, none⟩) g.names.length g.names.length) ∧ W.heap.size ≤ b ∧ w'.rowIs b 4 g.names.length (fun i => .bool (O i)) ∧ (∀ L, Least g L → ∀ i, O i = (L.getD i (-1) == 0)) ∧ Below W.heap.size W w' := by
  obtain ⟨An, At_, Ap, cn, ct, cp, rfl, hN, hT, hP⟩ := h.open_
  have hbb : Below W.heap.size W (W.alloc (.cells #[.int .i64 g.start, .int .i64 g.rules, .slice An g.names.length cn, .slice At_ g.terms.length ct, .slice Ap g.prods.length cp] 33)) := (Below.refl _ _).alloc (Nat.le_refl _) _
  have hbx := heap_alloc_new W (.cells #[.int .i64 g.start, .int .i64 g.rules, .slice An g.names.length cn, .slice At_ g.terms.length ct, .slice Ap g.prods.length cp] 33)
  obtain ⟨n, hn⟩ : ∃ n, n = g.names.length := ⟨_, rfl⟩
  obtain ⟨np, hnp⟩ : ∃ np, np = g.prods.length := ⟨_, rfl⟩
  have hn1 : 1 ≤ n := by have := hS.start; omega
  have hn2 : n ≤ 256 := by have := hS.few.1; omega
  have hnp2 : np ≤ 256 := by have := hS.few.2.2; omega
  rw [← hn, ← hnp] at hbx hbb
  rw [← hnp] at hP
  rw [← hn, ← hnp]
  obtain ⟨lt, hlt⟩ : ∃ lt, lt = g.terms.length := ⟨_, rfl⟩
  rw [← hlt] at hbx hbb ⊢
  obtain ⟨st, hst⟩ : ∃ st, st = g.start := ⟨_, rfl⟩
  rw [← hst] at hbx hbb ⊢
  obtain ⟨ru, hru⟩ : ∃ ru, ru = g.rules := ⟨_, rfl⟩
  rw [← hru] at hbx hbb ⊢
  have HS := Lib.hid hS
  have HP := Lib.hid hP
  have HNN := Lib.hid hn
  have HNP := Lib.hid hnp
  have b2 := cell_of_row _ _ 2 _ _ (0, 0) hbx
  have HBX := Lib.hid hbx
  have HBB := Lib.hid hbb
  have hmk := run_make_row' (P := Try.prog) 38 4 (.bool false) 1 rfl binfo rfl .i64 .i64 n (by omega) (by omega)
  clear h hN hT hP hbb hbx hS hn hnp hlt hst hru
  go_enter Try.func15, Try.ntmps15
  go_wp2_with fail
  have hrow := World.rowIs_made (W.alloc (.cells #[.int .i64 st, .int .i64 ru, .slice An n cn, .slice At_ lt ct, .slice Ap np cp] 33)) (.bool false) n 4
  have hxb := (heap_alloc_old (W.alloc (.cells #[.int .i64 st, .int .i64 ru, .slice An n cn, .slice At_ lt ct, .slice Ap np cp] 33)) (.cells (madeCells #[.bool false] n) 4) (Gn.heap_lt HBX.out)).trans HBX.out
  have HB1 := Lib.hid (HBB.out.alloc HBB.out.size (.cells (madeCells #[.bool false] n) 4))
  have hbs : W.heap.size < (W.alloc (.cells #[.int .i64 st, .int .i64 ru, .slice An n cn, .slice At_ lt ct, .slice Ap np cp] 33)).heap.size := by simp
  obtain ⟨b, hb⟩ : ∃ b, b = W.heap.size + 1 := ⟨_, rfl⟩
  have hb' : (W.alloc (.cells #[.int .i64 st, .int .i64 ru, .slice An n cn, .slice At_ lt ct, .slice Ap np cp] 33)).heap.size = b := by simp [hb]
  rw [hb'] at hrow hbs
  try rw [← hb]
  generalize hV : World.alloc (World.alloc W _) _ = V
  rw [hV] at hrow hxb HB1
  have HL0 := Lib.hid (show NulAt W g b n #[.int .i64 st, .int .i64 ru, .slice An n cn, .slice At_ lt ct, .slice Ap np cp] V (fun _ => false) from ⟨hxb, hrow, fun i hi => (by cases hi), HB1.out⟩)
  have HBS := Lib.hid hbs
  clear hV hrow hxb HB1 hb hb' hbs hmk b2 HBX HBB
  go_loopw [4] (fun v wr => ∃ (O : Nat → Bool) (t : Bool), v = .bool t ∧ NulAt W g b n #[.int .i64 st, .int .i64 ru, .slice An n cn, .slice At_ lt ct, .slice Ap np cp] wr O ∧ (t = false → ∀ p ∈ g.prods, NulFx O p)) (fun v wr => ffW wr b + flg v)
  case atStart => exact ⟨_, true, rfl, HL0.out, fun h => by cases h⟩
  case round =>
    obtain ⟨O0, t, rfl, hL, hfx⟩ := hrel
    cases t
    · have HF := Lib.hid (hfx rfl)
      have HL := Lib.hid hL
      clear hL hfx
      go_wp2
      go_ret
      exact ⟨b, O0, rfl, Nat.le_of_lt HBS.out, HL.out.row, fun L hL i => nul_is HL.out.ok HF.out hL i, HL.out.below⟩
    · have HMS := Lib.hid (ffW_is hL.row)
      have HL := Lib.hid hL
      clear hL hfx HL0
      obtain ⟨wo, rfl⟩ : ∃ wo : World, wo = wr := ⟨_, rfl⟩
      go_wp2_with fail
      go_loopw [4, 5] (fun v i wq => ∃ (O : Nat → Bool) (t : Bool) (k : Nat), v = .bool t ∧ k ≤ np ∧ i = .int .i64 k ∧ NulAt W g b n #[.int .i64 st, .int .i64 ru, .slice An n cn, .slice At_ lt ct, .slice Ap np cp] wq O ∧ PassN NulFx g.prods n O0 O k t) (fun _ i _ => np - (intOf i).toNat)
      case atStart => exact ⟨O0, false, 0, rfl, Nat.zero_le _, rfl, HL.out, fun _ => ⟨rfl, fun j _ hj => absurd hj (by omega)⟩, fun h => by cases h⟩
      case round =>
        obtain ⟨O, t, k, rfl, hk, rfl, hA, hpass⟩ := hrel
        have c4 : wr.cell? ⟨W.heap.size, 4, none⟩ = some (.slice Ap np cp) := cell_of_row _ _ 4 _ _ (0, 0) hA.box
        by_cases hlt : k < np
        · have h1 : k < g.prods.length := by rw [← HNP.out]; exact hlt
          obtain ⟨A', cap', bb, f, e1, _, e3, e4⟩ := HP.out
          injection e1 with e1 e6 e5
          subst e1
          subst e5
          obtain ⟨eA, hr, _⟩ := e3 (by omega)
          subst eA
          obtain ⟨x0, x1, xi⟩ := e4 k h1
          have hmem : g.prods[k] ∈ g.prods := List.getElem_mem h1
          obtain ⟨lf0, lf1⟩ := HS.out.left _ hmem
          have hsh := HS.out.short _ hmem
          have hkn := HS.out.known _ hmem
          rw [← HNN.out] at lf1 hkn
          obtain ⟨p, hp⟩ : ∃ p, p = g.prods[k] := ⟨_, rfl⟩
          have HPS := Lib.hid hpass
          have HPE := Lib.hid hp
          rw [← hp] at x0 xi hmem lf0 lf1 hsh hkn
          have X0 := (hA.below.cell (p := ⟨bb, k * 2, none⟩) hr).trans x0
          have X1 := (hA.below.cell (p := ⟨bb, k * 2 + 1, none⟩) hr).trans x1
          obtain ⟨q, hq⟩ : ∃ q : Nat, p.left = (q : Int) := ⟨p.left.toNat, by omega⟩
          have hqn : q < n := by omega
          have hqi2 : (q : Int) < (n : Int) := by omega
          rw [hq] at X0
          obtain ⟨Ax, cx, bx, hx, _, hx3, hx4⟩ := xi
          rw [hx] at X1
          obtain ⟨m, hm⟩ : ∃ m, m = p.right.length := ⟨_, rfl⟩
          rw [← hm] at X1 hx3 hsh
          have yq := hA.row.cell hqn
          have yf := hA.row.frozen q
          have HX3 := Lib.hid hx3
          have HX4 := Lib.hid hx4
          have HM := Lib.hid hm
          have HKN := Lib.hid hkn
          have HMEM := Lib.hid hmem
          have HQ := Lib.hid hq
          have HA := Lib.hid hA
          have hlt2 : (k : Int) < (np : Int) := by omega
          clear e6 e3 e4 hx hx3 hx4 x0 x1 hp hmem hkn hm hq lf0 lf1 hA hpass
          obtain ⟨wo2, rfl⟩ : ∃ wo2 : World, wo2 = wr := ⟨_, rfl⟩
          go_wp2_with fail
          go_loopw [6, 8] (fun al kk w5 => ∃ j : Nat, j ≤ m ∧ kk = .int .i64 j ∧ al = .bool (allN O (p.right.take j)) ∧ w5 = wo2) (fun _ kk _ => m - (intOf kk).toNat)
          case atStart => exact ⟨0, Nat.zero_le _, rfl, rfl, rfl⟩
          case round =>
            obtain ⟨j, hj, rfl, rfl, rfl⟩ := hrel
            obtain ⟨aj, haj⟩ : ∃ aj, aj = allN O (p.right.take j) := ⟨_, rfl⟩
            rw [← haj]
            have HAJ := Lib.hid haj
            clear haj
            by_cases hjm : j < m
            · have hjm2 : (j : Int) < (m : Int) := by omega
              have hjl : j < p.right.length := by rw [← HM.out]; exact hjm
              obtain ⟨eX, hxb, _⟩ := HX3.out (by omega)
              subst eX
              have q2 := (HA.out.below.cell (p := ⟨bx, j, none⟩) hxb).trans (HX4.out j hjl)
              have hks := HKN.out _ (List.getElem_mem hjl)
              have HTK := Lib.hid (show p.right.take (j + 1) = p.right.take j ++ [p.right[j]] from List.take_succ_eq_append_getElem hjl)
              obtain ⟨s, hs⟩ : ∃ s, s = p.right[j] := ⟨_, rfl⟩
              rw [← hs] at q2 hks HTK
              have HAS := Lib.hid (show allN O (p.right.take (j + 1)) = (aj && (decide (0 ≤ s) && O s.toNat)) by rw [HTK.out, allN_snoc, ← HAJ.out])
              clear hs
              cases aj
              · go_wp2_with fail
                go_roundw
                case rel => exact ⟨j + 1, by omega, by simp, by rw [HAS.out]; rfl, trivial⟩
                case measure => simp [intOf]; omega
              · by_cases hs0 : s < 0
                · have hs1 : ¬ s ≥ 0 := by omega
                  have hds : decide (s ≥ 0) = false := decide_eq_false hs1
                  go_wp2_with fail
                  go_roundw
                  case rel => exact ⟨j + 1, by omega, by simp, by rw [HAS.out, decide_eq_false (by omega)]; rfl, trivial⟩
                  case measure => simp [intOf]; omega
                · obtain ⟨t, ht⟩ : ∃ t : Nat, s = (t : Int) := ⟨s.toNat, by omega⟩
                  subst ht
                  have htn : t < n := by omega
                  have htn2 : (t : Int) < (n : Int) := by omega
                  have yt := HA.out.row.cell htn
                  obtain ⟨ot, hot⟩ : ∃ ot, ot = O t := ⟨_, rfl⟩
                  rw [← hot] at yt
                  have HO := Lib.hid (show allN O (p.right.take (j + 1)) = ot by rw [HAS.out, decide_eq_true (by omega), hot]; rfl)
                  have hs1 : (t : Int) ≥ 0 := by omega
                  clear hot hs0
                  go_wp2_with fail
                  go_roundw
                  case rel => exact ⟨j + 1, by omega, by simp, by rw [HO.out], trivial⟩
                  case measure => simp [intOf]; omega
            · have hje : m = j := by omega
              subst hje
              have hjm2 : ¬ ((m : Nat) : Int) < ((m : Nat) : Int) := by omega
              have HT := Lib.hid (show p.right.take m = p.right by rw [HM.out, List.take_length])
              have hall : allN O p.right = aj := by rw [← HT.out, ← HAJ.out]
              have HALL := Lib.hid hall
              clear hall
              cases aj
              · have HP2 := Lib.hid (HPS.out.same (h := h1) (fun _ => show NulFx O g.prods[k] from fun ha => by rw [← HPE.out, HALL.out] at ha; cases ha))
                go_wp2_with fail
                go_roundw
                case rel => exact ⟨O, _, k + 1, rfl, by omega, by simp, HA.out, HP2.out⟩
                case measure => simp [intOf]; omega
              · cases hoq : O q
                · rw [hoq] at yq
                  have HP2 := Lib.hid (HPS.out.less (k' := k + 1) (cntN_upd hoq n hqn))
                  have HA2 := Lib.hid (HA.out.set HBS.out q (nul_step HA.out.ok HMEM.out HQ.out HALL.out))
                  clear hoq
                  go_wp2_with fail
                  go_roundw
                  case rel => exact ⟨_, true, k + 1, rfl, by omega, by simp, HA2.out, HP2.out⟩
                  case measure => simp [intOf]; omega
                · rw [hoq] at yq
                  have HP2 := Lib.hid (HPS.out.same (h := h1) (fun _ => show NulFx O g.prods[k] from fun _ => by rw [← HPE.out, HQ.out]; exact hoq))
                  clear hoq
                  go_wp2_with fail
                  go_roundw
                  case rel => exact ⟨O, _, k + 1, rfl, by omega, by simp, HA.out, HP2.out⟩
                  case measure => simp [intOf]; omega
        · have hke : np = k := by omega
          subst hke
          have hlt2 : ¬ ((np : Nat) : Int) < ((np : Nat) : Int) := by omega
          have HPS := Lib.hid hpass
          have HA := Lib.hid hA
          have HM2 := Lib.hid (ffW_is hA.row)
          clear hpass hA
          go_wp2_with fail
          go_roundw
          case rel => exact ⟨O, t, rfl, HA.out, fun ht p hp => by
            obtain ⟨e, h2⟩ := HPS.out.1 ht
            obtain ⟨i, hi, rfl⟩ := List.getElem_of_mem hp
            rw [e]
            exact h2 i hi (by rw [HNP.out]; exact hi)⟩
          case measure =>
            rw [HMS.out, HM2.out]
            cases t
            · have := (HPS.out.1 rfl).1
              rw [this]; simp [flg]
            · have := HPS.out.2 rfl
              simp [flg]; omega
end Go.Proofs.Ytlkijnglpllcdaa.Fx
