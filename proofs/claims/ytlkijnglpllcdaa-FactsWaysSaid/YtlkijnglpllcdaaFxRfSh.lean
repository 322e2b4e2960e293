/-
  The walk of the document's Shortest.
-/
import Derived.Test.YtlkijnglpllcdaaFxRfNul
namespace Go.Proofs.Ytlkijnglpllcdaa.Fx
open Go.RowKit
set_option maxRecDepth 100000
set_option linter.unusedSimpArgs false
set_option linter.unusedVariables false

/-- Within the loops: the grammar's box, the lengths. -/
structure ShAt (W0 : World) (g : PG) (b : Nat) (cs : Array Value) (W : World) (L : List Int) : Prop where
  box : W.heap[W0.heap.size]? = some (.cells cs 33 (0, 0))
  row : RowAt W b L
  runs : Runs g L
  below : Below W0.heap.size W0 W
theorem ShAt.set {W0 W : World} {g : PG} {b : Nat} {cs : Array Value} {L : List Int} (h : ShAt W0 g b cs W L) (hb : W0.heap.size < b) (k : Nat) (c : Int) (hr : Runs g (L.set k c)) : ShAt W0 g b cs (W.setCell ⟨b, k, none⟩ (.int .i64 c)) (L.set k c) :=
  ⟨(Gn.set_keep W k _ (by omega)).trans h.box, h.row.set k c, hr, h.below.setCell (show W0.heap.size ≤ b by omega) _⟩
/-- A row of one number everywhere. -/
theorem row_all {W : World} {b n : Nat} {x : Int} {f : Nat → Value} (h : W.rowIs b 3 n f) (hf : ∀ i, i < n → f i = .int .i64 x) : RowAt W b (List.replicate n x) := by
  obtain ⟨c, hb, hn, hc⟩ := h
  unfold RowAt ivs
  rw [hb]
  congr 2
  apply Array.ext'
  refine List.ext_getElem (by simp [hn]) fun i h1 h2 => ?_
  have h3 : i < n := by simpa using h2
  have := hc i h3
  rw [hf i h3, Array.getElem?_eq_some_iff] at this
  obtain ⟨h4, h5⟩ := this
  simpa using h5

set_option maxHeartbeats 8000000 in
theorem shref_any (g : PG) (hS : Snd g) (P : Nat → Prop) (W : World) (v : Value) (h : PgAt P W g v) :
    Calls Try.prog 11 #[v] W (Lens g W) := by
  obtain ⟨An, At_, Ap, cn, ct, cp, rfl, hN, hT, hP⟩ := h.open_
  have hbb : Below W.heap.size W (W.alloc (.cells #[.int .i64 g.start, .int .i64 g.rules, .slice An g.names.length cn, .slice At_ g.terms.length ct, .slice Ap g.prods.length cp] 33)) := (Below.refl _ _).alloc (Nat.le_refl _) _
  have hbx := heap_alloc_new W (.cells #[.int .i64 g.start, .int .i64 g.rules, .slice An g.names.length cn, .slice At_ g.terms.length ct, .slice Ap g.prods.length cp] 33)
  obtain ⟨n, hn⟩ : ∃ n, n = g.names.length := ⟨_, rfl⟩
  obtain ⟨np, hnp⟩ : ∃ np, np = g.prods.length := ⟨_, rfl⟩
  have hn1 : 1 ≤ n := by have := hS.start; omega
  have hn2 : n ≤ 256 := by have := hS.few.1; omega
  have hnp2 : np ≤ 256 := by have := hS.few.2.2; omega
  rw [← hn, ← hnp] at hbx hbb
  rw [← hnp] at hP
  rw [← hn, ← hnp]
  obtain ⟨lt, hlt⟩ : ∃ lt, lt = g.terms.length := ⟨_, rfl⟩
  rw [← hlt] at hbx hbb ⊢
  obtain ⟨st, hst⟩ : ∃ st, st = g.start := ⟨_, rfl⟩
  rw [← hst] at hbx hbb ⊢
  obtain ⟨ru, hru⟩ : ∃ ru, ru = g.rules := ⟨_, rfl⟩
  rw [← hru] at hbx hbb ⊢
  have HS := Lib.hid hS
  have HP := Lib.hid hP
  have HNN := Lib.hid hn
  have HNP := Lib.hid hnp
  have b2 := cell_of_row _ _ 2 _ _ (0, 0) hbx
  have HBX := Lib.hid hbx
  have HBB := Lib.hid hbb
  have hmk := run_make_row' (P := Try.prog) 22 3 (.int .i64 0) 8 rfl iinfo rfl .i64 .i64 n (by omega) (by omega)
  clear h hN hT hP hbb hbx hS hn hnp hlt hst hru
  go_enter Try.func11, Try.ntmps11
  go_wp2_with fail
  have hrow := World.rowIs_made (W.alloc (.cells #[.int .i64 st, .int .i64 ru, .slice An n cn, .slice At_ lt ct, .slice Ap np cp] 33)) (.int .i64 0) n 3
  have hxb := (heap_alloc_old (W.alloc (.cells #[.int .i64 st, .int .i64 ru, .slice An n cn, .slice At_ lt ct, .slice Ap np cp] 33)) (.cells (madeCells #[.int .i64 0] n) 3) (Gn.heap_lt HBX.out)).trans HBX.out
  have HB1 := Lib.hid (HBB.out.alloc HBB.out.size (.cells (madeCells #[.int .i64 0] n) 3))
  have hbs : W.heap.size < (W.alloc (.cells #[.int .i64 st, .int .i64 ru, .slice An n cn, .slice At_ lt ct, .slice Ap np cp] 33)).heap.size := by simp
  obtain ⟨b, hb⟩ : ∃ b, b = W.heap.size + 1 := ⟨_, rfl⟩
  have hb' : (W.alloc (.cells #[.int .i64 st, .int .i64 ru, .slice An n cn, .slice At_ lt ct, .slice Ap np cp] 33)).heap.size = b := by simp [hb]
  rw [hb'] at hrow hbs
  try rw [← hb]
  generalize hV : World.alloc (World.alloc W _) _ = V
  rw [hV] at hrow hxb HB1
  have HROW := Lib.hid hrow
  have HXB := Lib.hid hxb
  have HBS := Lib.hid hbs
  clear hV hrow hxb hb hb' hbs hmk b2 HBX HBB
  go_loopw [4] (fun i wr => ∃ k : Nat, k ≤ n ∧ i = .int .i64 k ∧ wr.rowIs b 3 n (fun j => .int .i64 (if j < k then -1 else 0)) ∧ wr.heap[W.heap.size]? = some (.cells #[.int .i64 st, .int .i64 ru, .slice An n cn, .slice At_ lt ct, .slice Ap np cp] 33 (0, 0)) ∧ Below W.heap.size W wr) (fun i _ => n - (intOf i).toNat)
  case atStart => exact ⟨0, Nat.zero_le _, rfl, HROW.out.congr (fun i _ => by rw [if_neg (by omega)]), HXB.out, HB1.out⟩
  case round =>
    obtain ⟨k, hk, rfl, hrow, hxb, hbel⟩ := hrel
    by_cases hlt : k < n
    · have y := hrow.cell hlt
      have yf := hrow.frozen k
      have HR2 := Lib.hid ((hrow.set k (.int .i64 (-1))).congr (g := fun j => .int .i64 (if j < k + 1 then -1 else 0)) fun i _ => by
        by_cases e : i = k
        · subst e; simp
        · by_cases e2 : i < k
          · simp [e, e2, show i < k + 1 by omega]
          · simp [e, e2, show ¬ i < k + 1 by omega])
      have HX2 := Lib.hid ((Gn.set_keep wr k (.int .i64 (-1)) (show b ≠ W.heap.size by have := HBS.out; omega)).trans hxb)
      have HB2 := Lib.hid (hbel.setCell (p := ⟨b, k, none⟩) (show W.heap.size ≤ b by have := HBS.out; omega) (.int .i64 (-1)))
      have hlt2 : (k : Int) < (n : Int) := by omega
      clear hrow hxb hbel
      go_wp2_with fail
      go_roundw
      case rel => exact ⟨k + 1, by omega, by simp, HR2.out, HX2.out, HB2.out⟩
      case measure => simp [intOf]; omega
    · have hke : n = k := by omega
      subst hke
      have hlt2 : ¬ ((n : Nat) : Int) < ((n : Nat) : Int) := by omega
      have HL0 := Lib.hid (show ShAt W g b #[.int .i64 st, .int .i64 ru, .slice An n cn, .slice At_ lt ct, .slice Ap np cp] wr (List.replicate n (-1)) from ⟨hxb, row_all hrow (fun i hi => by rw [if_pos hi]), by rw [HNN.out]; exact Runs.start, hbel⟩)
      clear hrow hxb hbel HROW HXB
      go_wp2_with fail
      go_loopw [5] (fun v wr => ∃ (L : List Int) (t : Bool), v = .bool t ∧ ShAt W g b #[.int .i64 st, .int .i64 ru, .slice An n cn, .slice At_ lt ct, .slice Ap np cp] wr L ∧ (t = false → Fix g L)) (fun v wr => wtW wr b + flg v)
      case atStart => exact ⟨_, true, rfl, HL0.out, fun h => by cases h⟩
      case round =>
        obtain ⟨L0, t, rfl, hL, hfx⟩ := hrel
        cases t
        · have HF := Lib.hid (hfx rfl)
          have HL := Lib.hid hL
          have hlen := (runs_ok hL.runs).1
          have hln : L0.length = n := by rw [hlen, ← HNN.out]
          clear hL hfx hlen
          have HLN := Lib.hid hln
          clear hln
          go_wp2
          go_ret
          exact ⟨b, L0, by rw [HLN.out]; rfl, Nat.le_of_lt HBS.out, HL.out.row, ⟨HL.out.runs, HF.out⟩, HL.out.below⟩
        · have HMS := Lib.hid (wtW_is hL.row)
          have HL := Lib.hid hL
          clear hL hfx HL0
          obtain ⟨wo, rfl⟩ : ∃ wo : World, wo = wr := ⟨_, rfl⟩
          go_wp2_with fail
          go_loopw [5, 6] (fun v i wq => ∃ (L : List Int) (t : Bool) (k : Nat), v = .bool t ∧ k ≤ np ∧ i = .int .i64 k ∧ ShAt W g b #[.int .i64 st, .int .i64 ru, .slice An n cn, .slice At_ lt ct, .slice Ap np cp] wq L ∧ PassAt g L0 L k t) (fun _ i _ => np - (intOf i).toNat)
          case atStart => exact ⟨L0, false, 0, rfl, Nat.zero_le _, rfl, HL.out, fun _ => ⟨rfl, fun j _ hj => absurd hj (by omega)⟩, fun h => by cases h⟩
          case round =>
            obtain ⟨L, t, k, rfl, hk, rfl, hA, hpass⟩ := hrel
            have c4 : wr.cell? ⟨W.heap.size, 4, none⟩ = some (.slice Ap np cp) := cell_of_row _ _ 4 _ _ (0, 0) hA.box
            by_cases hlt : k < np
            · have h1 : k < g.prods.length := by rw [← HNP.out]; exact hlt
              obtain ⟨A', cap', bb, f, e1, _, e3, e4⟩ := HP.out
              injection e1 with e1 e6 e5
              subst e1
              subst e5
              obtain ⟨eA, hr, _⟩ := e3 (by omega)
              subst eA
              obtain ⟨x0, x1, xi⟩ := e4 k h1
              have hmem : g.prods[k] ∈ g.prods := List.getElem_mem h1
              obtain ⟨lf0, lf1⟩ := HS.out.left _ hmem
              have hsh := HS.out.short _ hmem
              have hkn := HS.out.known _ hmem
              rw [← HNN.out] at lf1 hkn
              obtain ⟨p, hp⟩ : ∃ p, p = g.prods[k] := ⟨_, rfl⟩
              have HPS := Lib.hid hpass
              have HPE := Lib.hid hp
              rw [← hp] at x0 xi hmem lf0 lf1 hsh hkn
              have X0 := (hA.below.cell (p := ⟨bb, k * 2, none⟩) hr).trans x0
              have X1 := (hA.below.cell (p := ⟨bb, k * 2 + 1, none⟩) hr).trans x1
              obtain ⟨q, hq⟩ : ∃ q : Nat, p.left = (q : Int) := ⟨p.left.toNat, by omega⟩
              have hqn : q < n := by omega
              have hqi2 : (q : Int) < (n : Int) := by omega
              rw [hq] at X0
              obtain ⟨Ax, cx, bx, hx, _, hx3, hx4⟩ := xi
              rw [hx] at X1
              obtain ⟨m, hm⟩ : ∃ m, m = p.right.length := ⟨_, rfl⟩
              rw [← hm] at X1 hx3 hsh
              obtain ⟨hlen, hok⟩ := runs_ok hA.runs
              have hln : L.length = n := by rw [hlen, ← HNN.out]
              have HLN := Lib.hid hln
              have HOK := Lib.hid hok
              have HX3 := Lib.hid hx3
              have HX4 := Lib.hid hx4
              have HM := Lib.hid hm
              have HKN := Lib.hid hkn
              have HMEM := Lib.hid hmem
              have HQ := Lib.hid hq
              have HA := Lib.hid hA
              have hlt2 : (k : Int) < (np : Int) := by omega
              have hgd : ∀ i, (hi : i < L.length) → L.getD i (-1) = L[i] := fun i hi => by rw [List.getD_eq_getElem?_getD, List.getElem?_eq_getElem hi]; rfl
              have HGD := Lib.hid hgd
              have hd := hA.row.cell q (by rw [hln]; exact hqn)
              rw [← hgd] at hd
              have hdr := hok (L[q]'(by rw [hln]; exact hqn)) (List.getElem_mem _)
              rw [← hgd] at hdr
              have yf := hA.row.frozen q
              obtain ⟨d, hde⟩ : ∃ d, d = L.getD q (-1) := ⟨_, rfl⟩
              rw [← hde] at hd hdr
              have HD := Lib.hid hd
              have HDE := Lib.hid hde
              have HX0 := Lib.hid X0
              clear e6 e3 e4 hx hx3 hx4 x0 x1 hp hmem hkn hm hq lf0 lf1 hA hpass hlen hok hln hgd hde
              obtain ⟨wo2, rfl⟩ : ∃ wo2 : World, wo2 = wr := ⟨_, rfl⟩
              go_wp2_with fail
              go_loopw [7, 9] (fun nn kk w5 => ∃ j : Nat, j ≤ m ∧ kk = .int .i64 j ∧ nn = .int .i64 (shRow L (p.right.take j)) ∧ w5 = wo2) (fun _ kk _ => m - (intOf kk).toNat)
              case atStart => exact ⟨0, Nat.zero_le _, rfl, rfl, rfl⟩
              case round =>
                obtain ⟨j, hj, rfl, rfl, rfl⟩ := hrel
                have hcr := shRow_ok HOK.out (p.right.take j)
                have hpre := shRow_pre HOK.out p.right j
                obtain ⟨aj, haj⟩ : ∃ aj, aj = shRow L (p.right.take j) := ⟨_, rfl⟩
                rw [← haj] at hcr hpre ⊢
                have HAJ := Lib.hid haj
                have HPRE := Lib.hid hpre
                clear haj hpre
                by_cases hjm : j < m
                · have hjm2 : (j : Int) < (m : Int) := by omega
                  by_cases ha0 : aj ≥ 0
                  · have hjl : j < p.right.length := by rw [← HM.out]; exact hjm
                    obtain ⟨eX, hxb, _⟩ := HX3.out (by omega)
                    subst eX
                    have q2 := (HA.out.below.cell (p := ⟨bx, j, none⟩) hxb).trans (HX4.out j hjl)
                    have hks := HKN.out _ (List.getElem_mem hjl)
                    have HTK := Lib.hid (show p.right.take (j + 1) = p.right.take j ++ [p.right[j]] from List.take_succ_eq_append_getElem hjl)
                    obtain ⟨s, hs⟩ : ∃ s, s = p.right[j] := ⟨_, rfl⟩
                    rw [← hs] at q2 hks HTK
                    have HAS := Lib.hid (show shRow L (p.right.take (j + 1)) = if shOf L s = -1 then -1 else min (aj + shOf L s) 1099511627776 by rw [HTK.out, shRow_snoc HOK.out, ← HAJ.out, if_neg (by omega)])
                    clear hs
                    by_cases hs0 : s < 0
                    · have hw1 : IntKind.i64.wrap (aj + 1) = aj + 1 := IntWalk.i64_in _ (by omega)
                      have HAT := Lib.hid (show shRow L (p.right.take (j + 1)) = min (aj + 1) 1099511627776 by rw [HAS.out, show shOf L s = 1 by unfold shOf; rw [if_pos hs0], if_neg (by decide)])
                      by_cases hbig : aj + 1 > 1099511627776
                      · go_wp2_with fail
                        go_roundw
                        case rel => exact ⟨j + 1, by omega, by simp, by rw [HAT.out, Int.min_eq_right (by omega)], trivial⟩
                        case measure => simp [intOf]; omega
                      · go_wp2_with fail
                        go_roundw
                        case rel => exact ⟨j + 1, by omega, by simp, by rw [HAT.out, Int.min_eq_left (by omega)], trivial⟩
                        case measure => simp [intOf]; omega
                    · obtain ⟨t2, ht⟩ : ∃ t2 : Nat, s = (t2 : Int) := ⟨s.toNat, by omega⟩
                      subst ht
                      have htn : t2 < n := by omega
                      have htn2 : (t2 : Int) < (n : Int) := by omega
                      have yt := HA.out.row.cell t2 (by rw [HLN.out]; exact htn)
                      rw [← HGD.out] at yt
                      have htr := HOK.out (L[t2]'(by rw [HLN.out]; exact htn)) (List.getElem_mem _)
                      rw [← HGD.out] at htr
                      have HSH := Lib.hid (show shOf L (t2 : Int) = L.getD t2 (-1) by unfold shOf; rw [if_neg (by omega)]; rfl)
                      obtain ⟨x, hx⟩ : ∃ x, x = L.getD t2 (-1) := ⟨_, rfl⟩
                      rw [← hx] at yt htr HSH
                      clear hx
                      by_cases hx0 : x < 0
                      · have HAT := Lib.hid (show shRow L (p.right.take (j + 1)) = -1 by rw [HAS.out, HSH.out, if_pos (by omega)])
                        go_wp2_with fail
                        go_roundw
                        case rel => exact ⟨j + 1, by omega, by simp, by rw [HAT.out], trivial⟩
                        case measure => simp [intOf]; omega
                      · have hw1 : IntKind.i64.wrap (aj + x) = aj + x := IntWalk.i64_in _ (by omega)
                        have HAT := Lib.hid (show shRow L (p.right.take (j + 1)) = min (aj + x) 1099511627776 by rw [HAS.out, HSH.out, if_neg (by omega)])
                        by_cases hbig : aj + x > 1099511627776
                        · go_wp2_with fail
                          go_roundw
                          case rel => exact ⟨j + 1, by omega, by simp, by rw [HAT.out, Int.min_eq_right (by omega)], trivial⟩
                          case measure => simp [intOf]; omega
                        · go_wp2_with fail
                          go_roundw
                          case rel => exact ⟨j + 1, by omega, by simp, by rw [HAT.out, Int.min_eq_left (by omega)], trivial⟩
                          case measure => simp [intOf]; omega
                  · have hfin : shRow L p.right = aj := by have := HPRE.out (by omega); omega
                    obtain rfl : aj = -1 := by omega
                    have HP2 := Lib.hid (pass_same (h := h1) HPS.out (fun _ => show FixAt L g.prods[k] from by rw [← HPE.out]; exact .inl hfin))
                    clear hfin
                    go_wp2_with fail
                    go_roundw
                    case rel => exact ⟨L, _, k + 1, rfl, by omega, by simp, HA.out, HP2.out⟩
                    case measure => simp [intOf]; omega
                · have hje : m = j := by omega
                  subst hje
                  have hjm2 : ¬ ((m : Nat) : Int) < ((m : Nat) : Int) := by omega
                  have hfin : shRow L p.right = aj := by rw [HAJ.out, HM.out, List.take_length]
                  by_cases ha0 : aj = -1
                  · subst ha0
                    have HP2 := Lib.hid (pass_same (h := h1) HPS.out (fun _ => show FixAt L g.prods[k] from by rw [← HPE.out]; exact .inl hfin))
                    clear hfin
                    go_wp2_with fail
                    go_roundw
                    case rel => exact ⟨L, _, k + 1, rfl, by omega, by simp, HA.out, HP2.out⟩
                    case measure => simp [intOf]; omega
                  · have ha1 : aj ≥ 0 := by omega
                    by_cases hst : d < 0 ∨ aj < d
                    · have hrun : Runs g (L.set q aj) := by
                        rw [← hfin]
                        exact Runs.step L p q HA.out.runs HMEM.out HQ.out (by rw [← HNN.out]; exact hqn) (by rw [hfin]; omega) (by rw [hfin, ← HDE.out]; omega)
                      have HA2 := Lib.hid (HA.out.set HBS.out q aj hrun)
                      have HP2 := Lib.hid (pass_less (k := k) HPS.out (wt_set L q aj (by rw [HLN.out]; exact hqn) ha0 ha1 (by omega) (by rw [← HDE.out]; omega)))
                      clear hfin hrun
                      by_cases hd0 : d < 0
                      · go_wp2_with fail
                        go_roundw
                        case rel => exact ⟨_, true, k + 1, rfl, by omega, by simp, HA2.out, HP2.out⟩
                        case measure => simp [intOf]; omega
                      · have hd1 : aj < d := by omega
                        go_wp2_with fail
                        go_roundw
                        case rel => exact ⟨_, true, k + 1, rfl, by omega, by simp, HA2.out, HP2.out⟩
                        case measure => simp [intOf]; omega
                    · have hd0 : ¬ d < 0 := by omega
                      have hd1 : ¬ aj < d := by omega
                      have HP2 := Lib.hid (pass_same (h := h1) HPS.out (fun _ => show FixAt L g.prods[k] from by
                        rw [← HPE.out]
                        refine .inr ?_
                        rw [HQ.out, hfin, show (q : Int).toNat = q from rfl, ← HDE.out]
                        omega))
                      clear hfin
                      go_wp2_with fail
                      go_roundw
                      case rel => exact ⟨L, _, k + 1, rfl, by omega, by simp, HA.out, HP2.out⟩
                      case measure => simp [intOf]; omega
            · have hke : np = k := by omega
              subst hke
              have hlt2 : ¬ ((np : Nat) : Int) < ((np : Nat) : Int) := by omega
              have HPS := Lib.hid hpass
              have HA := Lib.hid hA
              have HM2 := Lib.hid (wtW_is hA.row)
              clear hpass hA
              go_wp2_with fail
              go_roundw
              case rel => exact ⟨L, t, rfl, HA.out, fun ht p hp => by
                obtain ⟨e, h2⟩ := HPS.out.1 ht
                obtain ⟨i, hi, rfl⟩ := List.getElem_of_mem hp
                rw [e]
                exact h2 i hi (by rw [HNP.out]; exact hi)⟩
              case measure =>
                rw [HMS.out, HM2.out]
                cases t
                · have := (HPS.out.1 rfl).1
                  rw [this]; simp [flg]
                · have := HPS.out.2 rfl
                  simp [flg]; omega
end Go.Proofs.Ytlkijnglpllcdaa.Fx
