/-
  Layer 23: the document's Good.
-/
import Derived.Test.YtfeelmblnkpfdaaDoorMsDd
import Derived.Test.YtfeelmblnkpfdaaDoorLexT
import Derived.Deep.CutRange
namespace Go.Proofs.YtfeelmblnkpfdaaDoor.Ms
open Oct (pb bs rng)
open Go.RowKit
set_option maxRecDepth 100000
set_option linter.unusedSimpArgs false
set_option linter.unusedVariables false
set_option maxHeartbeats 64000000 in
theorem rgood_any (m : Msg) (r : Int) (v : Value) (w : World) (hv : MsgAt w m v) (h1 : m.known.length ≤ 1000) (h2 : m.ents.length ≤ 1000) (hop : m.op - m.base ≤ 9223372036854775807 ∧ -9223372036854775808 ≤ m.op - m.base ∨ True) : Calls Tryd.prog 9 #[v, .int .i64 r] w (Says (docB m r) w) := by
  obtain ⟨a, cap, b, cap2, rfl, hi, he⟩ := hv
  have hfs := fields_size m
  obtain ⟨f, hf⟩ : ∃ f, f = fieldsM m := ⟨_, rfl⟩
  obtain ⟨q, hq⟩ : ∃ q, q = docB m r := ⟨_, rfl⟩
  obtain ⟨AG, hAG⟩ : ∃ v, v = Value.agg (cellsM m a cap b cap2) := ⟨_, rfl⟩
  have HFF := Lib.hid (fun (h1 : 1 ≤ m.kind) (h2 : m.kind ≤ 12) (w : World) => show Calls Tryd.prog 16 #[AG] w (fun e w' => e = .returned (.string f) ∧ Below w.heap.size w w') by rw [hAG, hf]; exact fields_any m a cap b cap2 w h1 h2)
  rw [← hq]
  unfold docB at hq
  rw [← hf] at hq hfs
  have HHA := Lib.hid (fun (c : Int) (w : World) => show Calls Tryd.prog 17 #[.string f, .int .u8 c] w (Says (hasL (bs f) c) w) from has_any f c w hfs)
  obtain ⟨n, hn⟩ : ∃ n, n = m.known.length := ⟨_, rfl⟩
  obtain ⟨nn, hnn⟩ : ∃ n, n = m.ents.length := ⟨_, rfl⟩
  rw [← hn] at hi h1 hq
  rw [← hnn] at he h2 hq
  unfold cellsM at hAG
  rw [← hn, ← hnn] at hAG
  unfold cellsM
  rw [← hn, ← hnn]
  obtain ⟨kind, frm, born, known, view, last, op, commit, client, number, nonce, text, full, base, state, ents⟩ := m
  dsimp only at *
  obtain ⟨bt, hbt⟩ : ∃ b, b = hasL (bs f) 116 := ⟨_, rfl⟩
  obtain ⟨bT, hbT⟩ : ∃ b, b = hasL (bs f) 84 := ⟨_, rfl⟩
  obtain ⟨bi, hbi⟩ : ∃ b, b = hasL (bs f) 105 := ⟨_, rfl⟩
  obtain ⟨bx, hbx⟩ : ∃ b, b = hasL (bs f) 120 := ⟨_, rfl⟩
  obtain ⟨bc, hbc⟩ : ∃ b, b = hasL (bs f) 99 := ⟨_, rfl⟩
  obtain ⟨be, hbe⟩ : ∃ b, b = hasL (bs f) 101 := ⟨_, rfl⟩
  have HHt := Lib.hid (fun (w : World) => show Calls Tryd.prog 17 #[.string f, .int .u8 116] w (Says bt w) by rw [hbt]; exact HHA.out 116 w)
  have HHT := Lib.hid (fun (w : World) => show Calls Tryd.prog 17 #[.string f, .int .u8 84] w (Says bT w) by rw [hbT]; exact HHA.out 84 w)
  have HHi := Lib.hid (fun (w : World) => show Calls Tryd.prog 17 #[.string f, .int .u8 105] w (Says bi w) by rw [hbi]; exact HHA.out 105 w)
  have HHx := Lib.hid (fun (w : World) => show Calls Tryd.prog 17 #[.string f, .int .u8 120] w (Says bx w) by rw [hbx]; exact HHA.out 120 w)
  have HHc := Lib.hid (fun (w : World) => show Calls Tryd.prog 17 #[.string f, .int .u8 99] w (Says bc w) by rw [hbc]; exact HHA.out 99 w)
  have HHe := Lib.hid (fun (w : World) => show Calls Tryd.prog 17 #[.string f, .int .u8 101] w (Says be w) by rw [hbe]; exact HHA.out 101 w)
  rw [← hbi, ← hbx, ← hbc, ← hbe, ← hbT] at hq
  obtain ⟨d1, hd1⟩ : ∃ d, d = (groupB r && knownB kind) := ⟨_, rfl⟩
  obtain ⟨d2, hd2⟩ : ∃ d, d = ((List.range 10).all (numB f kind (numsM ⟨kind, frm, born, known, view, last, op, commit, client, number, nonce, text, full, base, state, ents⟩))) := ⟨_, rfl⟩
  obtain ⟨d3, hd3⟩ : ∃ d, d = (knB kind frm n r) := ⟨_, rfl⟩
  obtain ⟨d4, hd4⟩ : ∃ d, d = (!known.any badN) := ⟨_, rfl⟩
  obtain ⟨d5, hd5⟩ : ∃ d, d = (wideB f kind text full state nn) := ⟨_, rfl⟩
  obtain ⟨d6, hd6⟩ : ∃ d, d = (!ents.any badX) := ⟨_, rfl⟩
  obtain ⟨d7, hd7⟩ : ∃ d, d = (!(bi && (decide (2 < client) || decide (number < 1)))) := ⟨_, rfl⟩
  obtain ⟨d8, hd8⟩ : ∃ d, d = (!(bx && decide (nonce < 1))) := ⟨_, rfl⟩
  obtain ⟨d9, hd9⟩ : ∃ d, d = (!(bc && decide (op < commit))) := ⟨_, rfl⟩
  obtain ⟨d10, hd10⟩ : ∃ d, d = (if be = true then decide (nn = 1) && decide (0 < op) else if bT = true then decide (last ≤ view) && decide (base ≤ commit) && decide ((nn : Int) = op - base) && (decide (0 < base) || decide (state.size = 0)) else decide (nn = 0)) := ⟨_, rfl⟩
  rw [← hd1, ← hd2, ← hd3, ← hd4, ← hd5, ← hd6, ← hd7, ← hd8, ← hd9, ← hd10] at hq
  have HD1 := Lib.hid hd1
  have HD2 := Lib.hid hd2
  have HD3 := Lib.hid hd3
  have HD4 := Lib.hid hd4
  have HD5 := Lib.hid hd5
  have HD6 := Lib.hid hd6
  have HD7 := Lib.hid hd7
  have HD8 := Lib.hid hd8
  have HD9 := Lib.hid hd9
  have HD10 := Lib.hid hd10
  have HQ := Lib.hid hq
  have HBt := Lib.hid hbt
  have HBT := Lib.hid hbT
  have HF := Lib.hid hf
  obtain ⟨V, hV⟩ : ∃ V, V = w.alloc (.cells #[.int .i64 kind, .int .i64 frm, .int .i64 born, .slice a n cap, .int .i64 view, .int .i64 last, .int .i64 op, .int .i64 commit, .int .i64 client, .int .i64 number, .int .i64 nonce, .string text, .bool full, .int .i64 base, .string state, .slice b nn cap2] 34) := ⟨_, rfl⟩
  have hb : Below w.heap.size w V := by rw [hV]; exact (Below.refl _ w).alloc (Nat.le_refl _) _
  have hx : V.heap[w.heap.size]? = some (.cells #[.int .i64 kind, .int .i64 frm, .int .i64 born, .slice a n cap, .int .i64 view, .int .i64 last, .int .i64 op, .int .i64 commit, .int .i64 client, .int .i64 number, .int .i64 nonce, .string text, .bool full, .int .i64 base, .string state, .slice b nn cap2] 34 (0, 0)) := by rw [hV]; exact heap_alloc_new w _
  obtain ⟨p, hp⟩ : ∃ p, p = w.heap.size := ⟨_, rfl⟩
  rw [← hp] at hx
  have HLD := Lib.hid (fun (w' : World) (h : w'.heap[p]? = some (.cells #[.int .i64 kind, .int .i64 frm, .int .i64 born, .slice a n cap, .int .i64 view, .int .i64 last, .int .i64 op, .int .i64 commit, .int .i64 client, .int .i64 number, .int .i64 nonce, .string text, .bool full, .int .i64 base, .string state, .slice b nn cap2] 34 (0, 0))) => show (loadVar 34 ⟨p, 0, none⟩).run Tryd.prog w' = .ok AG w' by
    rw [hAG]; exact run_loadVar_row w' _ _ 34 _ _ _ h Tryd.underlying34 rfl (by kernel_rfl))
  have HX := Lib.hid hx
  have HV := Lib.hid hV
  have HB := Lib.hid hb
  have HP := Lib.hid hp
  have HI := Lib.hid (hi.under hb)
  have HE := Lib.hid (he.under hb)
  have HN := Lib.hid hn
  have HNN := Lib.hid hnn
  clear hf hq hAG hfs hi he hn hnn hV hb hx hp hop hbt hbT hbi hbx hbc hbe hd1 hd2 hd3 hd4 hd5 hd6 hd7 hd8 hd9 hd10
  go_enter Tryd.func9, Tryd.ntmps9
  go_upto_region 1 with fail
  rw [← HV.out, ← HP.out]
  have x0 := cell_of_row _ _ 0 _ _ (0, 0) HX.out
  clear HV
  go_cut [32] from 13 to 31 (fun s wx => s = .bool (!d1) ∧ wx = V)
  case first =>
    by_cases r3 : r = 3
    · have HGR : groupB r = true := by rw [r3]; rfl
      subst r3
      by_cases k1 : kind < 1
      · have HX1 := Lib.hid (show d1 = false by rw [HD1.out]; unfold knownB; rw [decide_eq_false (show ¬ 1 ≤ kind by omega)]; simp)
        clear HD1
        go_wp2_with fail
        go_meet
        case rel => exact ⟨by rw [HX1.out]; rfl, rfl⟩
      · by_cases k2 : 12 < kind
        · have HX1 := Lib.hid (show d1 = false by rw [HD1.out]; unfold knownB; rw [decide_eq_false (show ¬ kind ≤ 12 by omega)]; simp)
          clear HD1
          go_wp2_with fail
          go_meet
          case rel => exact ⟨by rw [HX1.out]; rfl, rfl⟩
        · have HX1 := Lib.hid (show d1 = true by rw [HD1.out, HGR]; unfold knownB; rw [decide_eq_true (show 1 ≤ kind by omega), decide_eq_true (show kind ≤ 12 by omega)]; rfl)
          clear HD1
          go_wp2_with fail
          go_meet
          case rel => exact ⟨by rw [HX1.out]; rfl, rfl⟩
    · by_cases r5 : r = 5
      · have HGR : groupB r = true := by rw [r5]; rfl
        subst r5
        by_cases k1 : kind < 1
        · have HX1 := Lib.hid (show d1 = false by rw [HD1.out]; unfold knownB; rw [decide_eq_false (show ¬ 1 ≤ kind by omega)]; simp)
          clear HD1
          go_wp2_with fail
          go_meet
          case rel => exact ⟨by rw [HX1.out]; rfl, rfl⟩
        · by_cases k2 : 12 < kind
          · have HX1 := Lib.hid (show d1 = false by rw [HD1.out]; unfold knownB; rw [decide_eq_false (show ¬ kind ≤ 12 by omega)]; simp)
            clear HD1
            go_wp2_with fail
            go_meet
            case rel => exact ⟨by rw [HX1.out]; rfl, rfl⟩
          · have HX1 := Lib.hid (show d1 = true by rw [HD1.out, HGR]; unfold knownB; rw [decide_eq_true (show 1 ≤ kind by omega), decide_eq_true (show kind ≤ 12 by omega)]; rfl)
            clear HD1
            go_wp2_with fail
            go_meet
            case rel => exact ⟨by rw [HX1.out]; rfl, rfl⟩
      · by_cases r7 : r = 7
        · have HGR : groupB r = true := by rw [r7]; rfl
          subst r7
          by_cases k1 : kind < 1
          · have HX1 := Lib.hid (show d1 = false by rw [HD1.out]; unfold knownB; rw [decide_eq_false (show ¬ 1 ≤ kind by omega)]; simp)
            clear HD1
            go_wp2_with fail
            go_meet
            case rel => exact ⟨by rw [HX1.out]; rfl, rfl⟩
          · by_cases k2 : 12 < kind
            · have HX1 := Lib.hid (show d1 = false by rw [HD1.out]; unfold knownB; rw [decide_eq_false (show ¬ kind ≤ 12 by omega)]; simp)
              clear HD1
              go_wp2_with fail
              go_meet
              case rel => exact ⟨by rw [HX1.out]; rfl, rfl⟩
            · have HX1 := Lib.hid (show d1 = true by rw [HD1.out, HGR]; unfold knownB; rw [decide_eq_true (show 1 ≤ kind by omega), decide_eq_true (show kind ≤ 12 by omega)]; rfl)
              clear HD1
              go_wp2_with fail
              go_meet
              case rel => exact ⟨by rw [HX1.out]; rfl, rfl⟩
        · have HX1 := Lib.hid (show d1 = false by rw [HD1.out]; unfold groupB; rw [decide_eq_false r3, decide_eq_false r5, decide_eq_false r7]; rfl)
          clear HD1
          go_wp2_with fail
          go_meet
          case rel => exact ⟨by rw [HX1.out]; rfl, rfl⟩
  case rest =>
    obtain ⟨rfl, hwc⟩ := hcut
    rw [hwc]
    clear hwc
    have HCX := Lib.hid (fun (w' : World) (bw : Below V.heap.size V w') => show w'.cell? ⟨p, 0, none⟩ = some (.int .i64 kind) ∧ w'.cell? ⟨p, 1, none⟩ = some (.int .i64 frm) ∧ w'.cell? ⟨p, 2, none⟩ = some (.int .i64 born) ∧ w'.cell? ⟨p, 3, none⟩ = some (.slice a n cap) ∧ w'.cell? ⟨p, 4, none⟩ = some (.int .i64 view) ∧ w'.cell? ⟨p, 5, none⟩ = some (.int .i64 last) ∧ w'.cell? ⟨p, 6, none⟩ = some (.int .i64 op) ∧ w'.cell? ⟨p, 7, none⟩ = some (.int .i64 commit) ∧ w'.cell? ⟨p, 8, none⟩ = some (.int .i64 client) ∧ w'.cell? ⟨p, 9, none⟩ = some (.int .i64 number) ∧ w'.cell? ⟨p, 10, none⟩ = some (.int .i64 nonce) ∧ w'.cell? ⟨p, 11, none⟩ = some (.string text) ∧ w'.cell? ⟨p, 12, none⟩ = some (.bool full) ∧ w'.cell? ⟨p, 13, none⟩ = some (.int .i64 base) ∧ w'.cell? ⟨p, 14, none⟩ = some (.string state) ∧ w'.cell? ⟨p, 15, none⟩ = some (.slice b nn cap2) from by
      have h := (bw.block _ (Gn.heap_lt HX.out)).trans HX.out
      exact ⟨cell_of_row _ _ 0 _ _ (0, 0) h, cell_of_row _ _ 1 _ _ (0, 0) h, cell_of_row _ _ 2 _ _ (0, 0) h, cell_of_row _ _ 3 _ _ (0, 0) h, cell_of_row _ _ 4 _ _ (0, 0) h, cell_of_row _ _ 5 _ _ (0, 0) h, cell_of_row _ _ 6 _ _ (0, 0) h, cell_of_row _ _ 7 _ _ (0, 0) h, cell_of_row _ _ 8 _ _ (0, 0) h, cell_of_row _ _ 9 _ _ (0, 0) h, cell_of_row _ _ 10 _ _ (0, 0) h, cell_of_row _ _ 11 _ _ (0, 0) h, cell_of_row _ _ 12 _ _ (0, 0) h, cell_of_row _ _ 13 _ _ (0, 0) h, cell_of_row _ _ 14 _ _ (0, 0) h, cell_of_row _ _ 15 _ _ (0, 0) h⟩)
    have HBV := Lib.hid (Below.refl V.heap.size V)
    clear x0
    cases d1 with
    | false =>
      go_wp2_with fail
      go_ret
      exact ⟨by rw [HQ.out]; rfl, HB.out.trans (HBV.out.mono HB.out.size)⟩
    | true =>
      have hk0 := HD1.out.symm
      unfold knownB at hk0
      simp only [Bool.and_eq_true, decide_eq_true_eq] at hk0
      obtain ⟨-, hk1, hk12⟩ := hk0
      have hl := HLD.out _ HX.out
      have HFC := Lib.hid (HFF.out hk1 hk12)
      go_wp2_with (first | (refine LexT.wpList_val _ (by rfl) (exec_load _ _ 34 _ _ _ _ rfl rfl hl) ?_) | fail)
      refine (HFC.out _).mono ?_
      rintro e w1 ⟨rfl, b⟩
      have HB1 := Lib.hid b
      clear b hl HFC
      obtain ⟨L, hL⟩ : ∃ L, L = numsM ⟨kind, frm, born, known, view, last, op, commit, client, number, nonce, text, full, base, state, ents⟩ := ⟨_, rfl⟩
      rw [← hL] at HD2
      obtain ⟨LW, hLW⟩ : ∃ W, W = w1.alloc (.cells #[.int .i64 frm, .int .i64 born, .int .i64 view, .int .i64 last, .int .i64 op, .int .i64 commit, .int .i64 client, .int .i64 number, .int .i64 nonce, .int .i64 base] 3) := ⟨_, rfl⟩
      obtain ⟨lb, hlb⟩ : ∃ q, q = w1.heap.size := ⟨_, rfl⟩
      have hbl : Below w1.heap.size w1 LW := by rw [hLW]; exact (Below.refl _ _).alloc (Nat.le_refl _) _
      have hxl : LW.heap[lb]? = some (.cells ((L.map (Value.int .i64)).toArray) 3 (0, 0)) := by rw [hLW, hlb, hL]; exact heap_alloc_new _ _
      have hll : L.length = 10 := by rw [hL]; rfl
      have HIL := Lib.hid (show Ints LW (some ⟨lb, 0, none⟩) 10 L from ⟨hll, fun _ => ⟨lb, 0, rfl, Gn.heap_lt hxl, fun i hi => by
        rw [cell_of_row _ _ (0 + i) _ _ (0, 0) hxl, Nat.zero_add, List.getElem?_toArray, List.getElem?_map, List.getD_eq_getElem?_getD, List.getElem?_eq_getElem (by omega)]
        rfl⟩⟩)
      have HB2 := Lib.hid (HB1.out.trans (hbl.mono HB1.out.size))
      have HLW := Lib.hid hLW
      have HLB := Lib.hid hlb
      have HL := Lib.hid hL
      have HLL := Lib.hid hll
      obtain ⟨ks, hks⟩ : ∃ s, s = kindsB := ⟨_, rfl⟩
      have hksz : ks.size = 10 := by rw [hks]; rfl
      have HKS := Lib.hid hks
      clear hLW hlb hbl hxl hL hll hks
      obtain ⟨-, x1, x2, -, x4, x5, x6, x7, x8, x9, x10, -, -, x13, -, -⟩ := HCX.out _ HB1.out
      go_upto_region 6 with fail
      rw [← HLW.out, ← HLB.out, show (Value.string ⟨#[63, 63, 118, 108, 111, 99, 105, 110, 120, 84]⟩) = .string ks by rw [HKS.out]; rfl]
      clear x1 x2 x4 x5 x6 x7 x8 x9 x10 x13
      clear HLW
      go_wp2_with fail
      go_loopw [8] (fun i wr => ∃ k : Nat, i = .int .i64 k ∧ k ≤ 10 ∧ Below LW.heap.size LW wr ∧ ∀ j, j < k → numB f kind L j = true) (fun i _ => 10 - (intOf i).toNat)
      case atStart => exact ⟨0, rfl, Nat.zero_le _, Below.refl _ _, fun j h => absurd h (by omega)⟩
      case round =>
        obtain ⟨k, rfl, hk, hb, hall⟩ := hrel
        have HBL := Lib.hid hb
        have HBR := Lib.hid (HB2.out.trans (hb.mono HB2.out.size))
        have HALL := Lib.hid hall
        clear hb hall
        by_cases hlt : k < 10
        · have hlt2 : (k : Int) < 10 := by omega
          obtain ⟨b9, o9, eb9, hb9, cc⟩ := (HIL.out.under HBL.out).get k hlt
          injection eb9 with eb9
          injection eb9 with e1 e2
          subst e1 e2
          rw [Nat.zero_add] at cc
          have HKL := Lib.hid (show k < L.length by rw [HLL.out]; exact hlt)
          obtain ⟨x, hx⟩ : ∃ x, x = L[k]'HKL.out := ⟨_, rfl⟩
          rw [← hx] at cc
          have hLx : L.getD k 0 = x := by rw [hx, List.getD_eq_getElem?_getD, List.getElem?_eq_getElem HKL.out]; rfl
          have hkz : k < ks.size := by omega
          have hkz2 : (k : Int) < (ks.size : Int) := by omega
          obtain ⟨o, ho⟩ : ∃ o, o = ourB f kind k := ⟨_, rfl⟩
          have HO := Lib.hid ho
          have HNB := Lib.hid (show numB f kind L k = (!badN x && (o || decide (x = 0))) by unfold numB; rw [hLx, ← ho])
          have HKC := Lib.hid (show (((bs kindsB).getD k 0).toNat : Int) = (ks[k].toNat : Int) by
            rw [← HKS.out, List.getD_eq_getElem?_getD, List.getElem?_eq_getElem (show k < (bs ks).length from hkz)]; rfl)
          have hcl := ks[k].toNat_lt
          clear hx hLx ho
          obtain ⟨x0, -, -, -, -, -, -, -, -, -, -, -, -, -, -, -⟩ := HCX.out _ HBR.out
          go_upto_region 9 with fail
          have ccw := cc
          clear cc
          go_cut [9] from 56 to 96 (fun s wx => s = .bool o ∧ Below wr.heap.size wr wx)
          case first =>
            by_cases hk2 : (k : Int) < 2
            · by_cases hg : 1 < kind
              · have HX1 := Lib.hid (show o = true by rw [HO.out]; unfold ourB; rw [decide_eq_true (show k < 2 by omega), decide_eq_true hg]; rfl)
                have hk3 : ¬ 1 < (k : Int) := by omega
                clear hcl
                go_wp2_with fail
                go_meet
                case rel => exact ⟨by rw [HX1.out], Below.refl _ _⟩
              · have HX1 := Lib.hid (show o = false by rw [HO.out]; unfold ourB; rw [decide_eq_false hg, decide_eq_false (show ¬ 1 < k by omega)]; simp)
                have hk3 : ¬ 1 < (k : Int) := by omega
                clear hcl
                go_wp2_with fail
                go_meet
                case rel => exact ⟨by rw [HX1.out], Below.refl _ _⟩
            · have HX1 := Lib.hid (show o = hasL (bs f) (ks[k].toNat : Int) by rw [HO.out]; unfold ourB; rw [decide_eq_false (show ¬ k < 2 by omega), decide_eq_true (show 1 < k by omega), HKC.out]; rfl)
              have hk3 : 1 < (k : Int) := by omega
              go_wp2_with fail
              refine (HHA.out _ _).mono ?_
              rintro e wz ⟨rfl, bz⟩
              rw [← HX1.out]
              have HBZ := Lib.hid bz
              clear bz
              go_wp2_with fail
              go_meet
              case rel => exact ⟨rfl, HBZ.out⟩
          case rest =>
            obtain ⟨rfl, hbz⟩ := hcut
            obtain ⟨w5, hw5⟩ : ∃ y, y = wc := ⟨_, rfl⟩
            rw [← hw5] at hbz ⊢
            clear hw5 x0
            have HB5 := Lib.hid (HBR.out.trans (hbz.mono HBR.out.size))
            have HBL5 := Lib.hid (HBL.out.trans (hbz.mono HBL.out.size))
            have c5 := (hbz.cell (p := ⟨lb, k, none⟩) (World.block_lt_of_cell? _ _ ccw)).trans ccw
            have HNC := Lib.hid (fun (w : World) => number_any x w)
            clear hbz ccw hcl
            have HEND := Lib.hid (fun (h : numB f kind L k = false) => show d2 = false by
              rw [HD2.out]
              rw [Bool.eq_false_iff]
              intro h2
              rw [List.all_eq_true] at h2
              rw [h2 k (List.mem_range.2 hlt)] at h
              cases h)
            have HNXT := Lib.hid (fun (h : numB f kind L k = true) => show ∀ j, j < k + 1 → numB f kind L j = true from fun j hj => by
              by_cases hjk : j = k
              · rw [hjk]; exact h
              · exact HALL.out j (by omega))
            go_wp2_with fail
            refine (HNC.out _).mono ?_
            rintro e w6 ⟨rfl, b6⟩
            have HB6 := Lib.hid (HB5.out.trans (b6.mono HB5.out.size))
            have HBL6 := Lib.hid (HBL5.out.trans (b6.mono HBL5.out.size))
            have c6 := (b6.cell (p := ⟨lb, k, none⟩) (World.block_lt_of_cell? _ _ c5)).trans c5
            clear b6 c5 HNC
            obtain ⟨bn, hbn⟩ : ∃ b, b = badN x := ⟨_, rfl⟩
            rw [← hbn] at HNB ⊢
            clear hbn
            cases bn with
            | true =>
              have HX1 := Lib.hid (HEND.out (by rw [HNB.out]; rfl))
              go_wp2_with fail
              go_ret
              exact ⟨by rw [HQ.out, HX1.out]; rfl, HB.out.trans (HB6.out.mono HB.out.size)⟩
            | false =>
              cases o with
              | true =>
                have HX1 := Lib.hid (HNXT.out (by rw [HNB.out]; rfl))
                go_wp2_with fail
                go_roundw
                case rel => exact ⟨k + 1, by go_num, by omega, HBL6.out, HX1.out⟩
                case measure => simp [intOf]; omega
              | false =>
                by_cases hx0 : x = 0
                · have HX1 := Lib.hid (HNXT.out (by rw [HNB.out, decide_eq_true hx0]; rfl))
                  have hx1 : (x != 0) = false := by rw [hx0]; rfl
                  go_wp2_with fail
                  go_roundw
                  case rel => exact ⟨k + 1, by go_num, by omega, HBL6.out, HX1.out⟩
                  case measure => simp [intOf]; omega
                · have HX1 := Lib.hid (HEND.out (by rw [HNB.out, decide_eq_false hx0]; rfl))
                  have hx1 : (x != 0) = true := by rw [bne_iff_ne]; exact hx0
                  go_wp2_with fail
                  go_ret
                  exact ⟨by rw [HQ.out, HX1.out]; rfl, HB.out.trans (HB6.out.mono HB.out.size)⟩
        · have hke : k = 10 := by omega
          subst hke
          have HX2 := Lib.hid (show d2 = true by
            rw [HD2.out, List.all_eq_true]
            exact fun j hj => HALL.out j (List.mem_range.1 hj))
          have hq := HQ.out
          rw [HX2.out, Bool.true_and, Bool.true_and] at hq
          have HQ := Lib.hid hq
          have HNO := Lib.hid (show (0 ≤ op ∧ op ≤ 9007199254740992) ∧ (0 ≤ base ∧ base ≤ 9007199254740992) from by
            have h4 := HALL.out 4 (by omega)
            have h9 := HALL.out 9 (by omega)
            rw [HL.out] at h4 h9
            unfold numB at h4 h9
            rw [Bool.and_eq_true] at h4 h9
            have g4 : badN op = false := by simpa [numsM] using h4.1
            have g9 : badN base = false := by simpa [numsM] using h9.1
            exact ⟨(bad_rng g4).2, (bad_rng g9).2⟩)
          clear hq HALL hlt hk HBL
          obtain ⟨w2, hw2⟩ : ∃ y, y = wr := ⟨_, rfl⟩
          rw [← hw2] at HBR ⊢
          clear hw2
          obtain ⟨x0, x1, -, x3, -, -, -, -, -, -, -, -, -, -, -, -⟩ := HCX.out _ HBR.out
          go_upto_region 12 with fail
          go_cut [123] from 97 to 122 (fun s wx => s = .bool (!d3) ∧ wx = w2)
          case first =>
            by_cases k1 : kind = 1
            · by_cases k2 : n = 0
              · have HX1 := Lib.hid (show d3 = true by rw [HD3.out, k2]; unfold knB; rw [decide_eq_false (show ¬ (1 < kind) by omega)]; simp)
                have k4 : ¬ (1 : Int) < 1 := by omega
                subst k1 k2
                clear HD3
                go_wp2_with fail
                go_meet
                case rel => exact ⟨by rw [HX1.out]; rfl, rfl⟩
              · have HX1 := Lib.hid (show d3 = false by rw [HD3.out]; unfold knB; rw [decide_eq_true k1, decide_eq_true (show 0 < n by omega)]; rfl)
                have k3 : (0 : Int) < (n : Int) := by omega
                subst k1
                clear HD3
                go_wp2_with fail
                go_meet
                case rel => exact ⟨by rw [HX1.out]; rfl, rfl⟩
            · have k4 : 1 < kind := by omega
              by_cases k2 : (n : Int) = r
              · by_cases k3 : r ≤ frm
                · have HX1 := Lib.hid (show d3 = false by rw [HD3.out]; unfold knB; rw [decide_eq_true k4, decide_eq_true k3]; simp)
                  have k5 : ((n : Int) != r) = false := by rw [k2]; simp
                  clear HD3
                  go_wp2_with fail
                  go_meet
                  case rel => exact ⟨by rw [HX1.out]; rfl, rfl⟩
                · have HX1 := Lib.hid (show d3 = true by rw [HD3.out]; unfold knB; rw [decide_eq_false k1, decide_eq_false k3, decide_eq_false (show ¬ ¬ (n : Int) = r from fun h => h k2)]; simp)
                  have k5 : ((n : Int) != r) = false := by rw [k2]; simp
                  have k6 : ¬ r ≤ frm := k3
                  clear HD3
                  go_wp2_with fail
                  go_meet
                  case rel => exact ⟨by rw [HX1.out]; rfl, rfl⟩
              · have HX1 := Lib.hid (show d3 = false by rw [HD3.out]; unfold knB; rw [decide_eq_true k4, decide_eq_true k2]; simp)
                have k5 : ((n : Int) != r) = true := by rw [bne_iff_ne]; exact k2
                clear HD3
                go_wp2_with fail
                go_meet
                case rel => exact ⟨by rw [HX1.out]; rfl, rfl⟩
          case rest =>
            obtain ⟨rfl, hwc⟩ := hcut
            rw [hwc]
            clear hwc
            clear x0 x1 x3
            cases d3 with
            | false =>
              go_wp2_with fail
              go_ret
              exact ⟨by rw [HQ.out]; rfl, HB.out.trans (HBR.out.mono HB.out.size)⟩
            | true =>
              obtain ⟨-, -, -, x3, -, -, -, -, -, -, -, -, -, -, -, -⟩ := HCX.out _ HBR.out
              go_wp2_with fail
              clear x3
              go_loopw [10] (fun i wr => ∃ k : Nat, i = .int .i64 k ∧ k ≤ n ∧ Below V.heap.size V wr ∧ (known.take k).any badN = false) (fun i _ => n - (intOf i).toNat)
              case atStart => exact ⟨0, rfl, Nat.zero_le _, HBR.out, rfl⟩
              case round =>
                obtain ⟨k, rfl, hk, hb, hall⟩ := hrel
                have HBR := Lib.hid hb
                have HALL := Lib.hid hall
                clear hb hall
                obtain ⟨-, -, -, x3, -, -, -, -, -, -, -, -, -, -, -, -⟩ := HCX.out _ HBR.out
                by_cases hlt : k < n
                · have hlt2 : (k : Int) < (n : Int) := by omega
                  obtain ⟨b9, o9, rfl, hb9, cc⟩ := (HI.out.under HBR.out).get k hlt
                  have HKL := Lib.hid (show k < known.length by rw [← HN.out]; exact hlt)
                  obtain ⟨x, hx⟩ : ∃ x, x = known[k]'HKL.out := ⟨_, rfl⟩
                  rw [← hx] at cc
                  have HSN := Lib.hid (show (known.take (k + 1)).any badN = badN x by rw [List.take_succ_eq_append_getElem HKL.out, List.any_append, HALL.out, ← hx]; simp)
                  have HEND := Lib.hid (fun (h : badN x = true) => show d4 = false by
                    rw [HD4.out, List.any_eq_true.2 ⟨x, by rw [hx]; exact List.getElem_mem _, h⟩]; rfl)
                  have HNC := Lib.hid (fun (w : World) => number_any x w)
                  clear hx
                  go_wp2_with fail
                  refine (HNC.out _).mono ?_
                  rintro e w6 ⟨rfl, b6⟩
                  have HB6 := Lib.hid (HBR.out.trans (b6.mono HBR.out.size))
                  clear b6 HNC x3 cc
                  obtain ⟨bn, hbn⟩ : ∃ b, b = badN x := ⟨_, rfl⟩
                  rw [← hbn] at HSN HEND ⊢
                  clear hbn
                  cases bn with
                  | true =>
                    have HX1 := Lib.hid (HEND.out rfl)
                    go_wp2_with fail
                    go_ret
                    exact ⟨by rw [HQ.out, HX1.out]; rfl, HB.out.trans (HB6.out.mono HB.out.size)⟩
                  | false =>
                    go_wp2_with fail
                    refine ⟨⟨_, _, _, _, _, _, _, _, _, _, _, _, _, _, _, _, ⟨k + 1, by go_num, by omega, HB6.out, HSN.out⟩, rfl⟩, by simp [intOf]; omega⟩
                · have hke : k = n := by omega
                  subst hke
                  have HX2 := Lib.hid (show d4 = true by
                    have := HALL.out
                    rw [List.take_of_length_le (by rw [← HN.out]; exact Nat.le_refl _)] at this
                    rw [HD4.out, this]; rfl)
                  have hq := HQ.out
                  rw [HX2.out, Bool.true_and, Bool.true_and] at hq
                  have HQ := Lib.hid hq
                  clear hq HALL hlt hk
                  obtain ⟨x0, -, -, -, -, -, -, -, -, -, -, x11, x12, -, x14, x15⟩ := HCX.out _ HBR.out
                  have HWZ := Lib.hid (Below.refl wr.heap.size wr)
                  go_upto_region 19 with fail
                  clear x3
                  go_cut [182] from 138 to 181 (fun s wx => s = .bool (!d5) ∧ Below wr.heap.size wr wx)
                  case first =>
                    by_cases text0 : text.size = 0
                    · have text3 := text0
                      have texts : text.size = 0 := text0
                      have text1 : text.toList = [] := by rw [size0 text text0, ByteArray.toList_eq]
                      have text2 : text.toList.isEmpty = true := by rw [text1]; rfl
                      have htx : ¬ (8192 : Int) < (text.size : Int) := by omega
                      have etx : decide ((8192 : Int) < (text.size : Int)) = false := decide_eq_false htx
                      cases full with
                      | true =>
                        by_cases k10 : kind = 10
                        · subst k10
                          by_cases state0 : state.size = 0
                          · have state3 := state0
                            have states : state.size = 0 := state0
                            have state1 : state.toList = [] := by rw [size0 state state0, ByteArray.toList_eq]
                            have state2 : state.toList.isEmpty = true := by rw [state1]; rfl
                            have hst : ¬ (65536 : Int) < (state.size : Int) := by omega
                            have est : decide ((65536 : Int) < (state.size : Int)) = false := decide_eq_false hst
                            by_cases h64 : (64 : Int) < (nn : Int)
                            · have g64 : 64 < nn := by omega
                              have e64 : decide ((64 : Int) < (nn : Int)) = true := decide_eq_true h64
                              have HX1 := Lib.hid (show d5 = false by rw [HD5.out]; unfold wideB; simp [HBt.out.symm, HBT.out.symm, text3, state3, g64])
                              go_wp2_with fail
                              go_meet
                              case rel => exact ⟨by rw [HX1.out]; rfl, HWZ.out⟩
                            · have g64 : ¬ 64 < nn := by omega
                              have e64 : decide ((64 : Int) < (nn : Int)) = false := decide_eq_false h64
                              have HX1 := Lib.hid (show d5 = true by rw [HD5.out]; unfold wideB; simp [HBt.out.symm, HBT.out.symm, text3, state3, g64])
                              go_wp2_with fail
                              go_meet
                              case rel => exact ⟨by rw [HX1.out]; rfl, HWZ.out⟩
                          · have state3 := state0
                            have state1 : ¬ state.toList = [] := fun h => state0 (by
                              have h2 : state.toList.length = 0 := by rw [h]; rfl
                              rwa [ByteArray.toList_eq, Array.length_toList] at h2)
                            have state2 : state.toList.isEmpty = false := by rw [List.isEmpty_eq_false_iff]; exact state1
                            go_wp2_with fail
                            refine (HHT.out _).mono ?_
                            rintro e wz4 ⟨rfl, bz⟩
                            have HBR := Lib.hid (HBR.out.trans (bz.mono HBR.out.size))
                            have HWZ := Lib.hid (HWZ.out.trans (bz.mono HWZ.out.size))
                            clear bz x0 x11 x12 x14 x15
                            obtain ⟨x0, -, -, -, -, -, -, -, -, -, -, x11, x12, -, x14, x15⟩ := HCX.out _ HBR.out
                            cases bT with
                            | false =>
                              have HX1 := Lib.hid (show d5 = false by rw [HD5.out]; unfold wideB; simp [HBt.out.symm, HBT.out.symm, text3, state3])
                              go_wp2_with fail
                              go_meet
                              case rel => exact ⟨by rw [HX1.out]; rfl, HWZ.out⟩
                            | true =>
                              by_cases hst : (65536 : Int) < (state.size : Int)
                              · have gst : 65536 < state.size := by omega
                                have est : decide ((65536 : Int) < (state.size : Int)) = true := decide_eq_true hst
                                have HX1 := Lib.hid (show d5 = false by rw [HD5.out]; unfold wideB; simp [HBt.out.symm, HBT.out.symm, text3, state3, gst])
                                go_wp2_with fail
                                go_meet
                                case rel => exact ⟨by rw [HX1.out]; rfl, HWZ.out⟩
                              · have gst : ¬ 65536 < state.size := by omega
                                have est : decide ((65536 : Int) < (state.size : Int)) = false := decide_eq_false hst
                                by_cases h64 : (64 : Int) < (nn : Int)
                                · have g64 : 64 < nn := by omega
                                  have e64 : decide ((64 : Int) < (nn : Int)) = true := decide_eq_true h64
                                  have HX1 := Lib.hid (show d5 = false by rw [HD5.out]; unfold wideB; simp [HBt.out.symm, HBT.out.symm, text3, state3, gst, g64])
                                  go_wp2_with fail
                                  go_meet
                                  case rel => exact ⟨by rw [HX1.out]; rfl, HWZ.out⟩
                                · have g64 : ¬ 64 < nn := by omega
                                  have e64 : decide ((64 : Int) < (nn : Int)) = false := decide_eq_false h64
                                  have HX1 := Lib.hid (show d5 = true by rw [HD5.out]; unfold wideB; simp [HBt.out.symm, HBT.out.symm, text3, state3, gst, g64])
                                  go_wp2_with fail
                                  go_meet
                                  case rel => exact ⟨by rw [HX1.out]; rfl, HWZ.out⟩
                        · have k11 : (kind != 10) = true := by rw [bne_iff_ne]; exact k10
                          have HX1 := Lib.hid (show d5 = false by rw [HD5.out]; unfold wideB; simp [HBt.out.symm, HBT.out.symm, text3, k10])
                          go_wp2_with fail
                          go_meet
                          case rel => exact ⟨by rw [HX1.out]; rfl, HWZ.out⟩
                      | false =>
                        by_cases state0 : state.size = 0
                        · have state3 := state0
                          have states : state.size = 0 := state0
                          have state1 : state.toList = [] := by rw [size0 state state0, ByteArray.toList_eq]
                          have state2 : state.toList.isEmpty = true := by rw [state1]; rfl
                          have hst : ¬ (65536 : Int) < (state.size : Int) := by omega
                          have est : decide ((65536 : Int) < (state.size : Int)) = false := decide_eq_false hst
                          by_cases h64 : (64 : Int) < (nn : Int)
                          · have g64 : 64 < nn := by omega
                            have e64 : decide ((64 : Int) < (nn : Int)) = true := decide_eq_true h64
                            have HX1 := Lib.hid (show d5 = false by rw [HD5.out]; unfold wideB; simp [HBt.out.symm, HBT.out.symm, text3, state3, g64])
                            go_wp2_with fail
                            go_meet
                            case rel => exact ⟨by rw [HX1.out]; rfl, HWZ.out⟩
                          · have g64 : ¬ 64 < nn := by omega
                            have e64 : decide ((64 : Int) < (nn : Int)) = false := decide_eq_false h64
                            have HX1 := Lib.hid (show d5 = true by rw [HD5.out]; unfold wideB; simp [HBt.out.symm, HBT.out.symm, text3, state3, g64])
                            go_wp2_with fail
                            go_meet
                            case rel => exact ⟨by rw [HX1.out]; rfl, HWZ.out⟩
                        · have state3 := state0
                          have state1 : ¬ state.toList = [] := fun h => state0 (by
                            have h2 : state.toList.length = 0 := by rw [h]; rfl
                            rwa [ByteArray.toList_eq, Array.length_toList] at h2)
                          have state2 : state.toList.isEmpty = false := by rw [List.isEmpty_eq_false_iff]; exact state1
                          go_wp2_with fail
                          refine (HHT.out _).mono ?_
                          rintro e wz4 ⟨rfl, bz⟩
                          have HBR := Lib.hid (HBR.out.trans (bz.mono HBR.out.size))
                          have HWZ := Lib.hid (HWZ.out.trans (bz.mono HWZ.out.size))
                          clear bz x0 x11 x12 x14 x15
                          obtain ⟨x0, -, -, -, -, -, -, -, -, -, -, x11, x12, -, x14, x15⟩ := HCX.out _ HBR.out
                          cases bT with
                          | false =>
                            have HX1 := Lib.hid (show d5 = false by rw [HD5.out]; unfold wideB; simp [HBt.out.symm, HBT.out.symm, text3, state3])
                            go_wp2_with fail
                            go_meet
                            case rel => exact ⟨by rw [HX1.out]; rfl, HWZ.out⟩
                          | true =>
                            by_cases hst : (65536 : Int) < (state.size : Int)
                            · have gst : 65536 < state.size := by omega
                              have est : decide ((65536 : Int) < (state.size : Int)) = true := decide_eq_true hst
                              have HX1 := Lib.hid (show d5 = false by rw [HD5.out]; unfold wideB; simp [HBt.out.symm, HBT.out.symm, text3, state3, gst])
                              go_wp2_with fail
                              go_meet
                              case rel => exact ⟨by rw [HX1.out]; rfl, HWZ.out⟩
                            · have gst : ¬ 65536 < state.size := by omega
                              have est : decide ((65536 : Int) < (state.size : Int)) = false := decide_eq_false hst
                              by_cases h64 : (64 : Int) < (nn : Int)
                              · have g64 : 64 < nn := by omega
                                have e64 : decide ((64 : Int) < (nn : Int)) = true := decide_eq_true h64
                                have HX1 := Lib.hid (show d5 = false by rw [HD5.out]; unfold wideB; simp [HBt.out.symm, HBT.out.symm, text3, state3, gst, g64])
                                go_wp2_with fail
                                go_meet
                                case rel => exact ⟨by rw [HX1.out]; rfl, HWZ.out⟩
                              · have g64 : ¬ 64 < nn := by omega
                                have e64 : decide ((64 : Int) < (nn : Int)) = false := decide_eq_false h64
                                have HX1 := Lib.hid (show d5 = true by rw [HD5.out]; unfold wideB; simp [HBt.out.symm, HBT.out.symm, text3, state3, gst, g64])
                                go_wp2_with fail
                                go_meet
                                case rel => exact ⟨by rw [HX1.out]; rfl, HWZ.out⟩
                    · have text3 := text0
                      have text1 : ¬ text.toList = [] := fun h => text0 (by
                        have h2 : text.toList.length = 0 := by rw [h]; rfl
                        rwa [ByteArray.toList_eq, Array.length_toList] at h2)
                      have text2 : text.toList.isEmpty = false := by rw [List.isEmpty_eq_false_iff]; exact text1
                      go_wp2_with fail
                      refine (HHt.out _).mono ?_
                      rintro e wz3 ⟨rfl, bz⟩
                      have HBR := Lib.hid (HBR.out.trans (bz.mono HBR.out.size))
                      have HWZ := Lib.hid (HWZ.out.trans (bz.mono HWZ.out.size))
                      clear bz x0 x11 x12 x14 x15
                      obtain ⟨x0, -, -, -, -, -, -, -, -, -, -, x11, x12, -, x14, x15⟩ := HCX.out _ HBR.out
                      cases bt with
                      | false =>
                        have HX1 := Lib.hid (show d5 = false by rw [HD5.out]; unfold wideB; simp [HBt.out.symm, HBT.out.symm, text3])
                        go_wp2_with fail
                        go_meet
                        case rel => exact ⟨by rw [HX1.out]; rfl, HWZ.out⟩
                      | true =>
                        by_cases htx : (8192 : Int) < (text.size : Int)
                        · have gtx : 8192 < text.size := by omega
                          have etx : decide ((8192 : Int) < (text.size : Int)) = true := decide_eq_true htx
                          have HX1 := Lib.hid (show d5 = false by rw [HD5.out]; unfold wideB; simp [HBt.out.symm, HBT.out.symm, text3, gtx])
                          go_wp2_with fail
                          go_meet
                          case rel => exact ⟨by rw [HX1.out]; rfl, HWZ.out⟩
                        · have gtx : ¬ 8192 < text.size := by omega
                          have etx : decide ((8192 : Int) < (text.size : Int)) = false := decide_eq_false htx
                          cases full with
                          | true =>
                            by_cases k10 : kind = 10
                            · subst k10
                              by_cases state0 : state.size = 0
                              · have state3 := state0
                                have states : state.size = 0 := state0
                                have state1 : state.toList = [] := by rw [size0 state state0, ByteArray.toList_eq]
                                have state2 : state.toList.isEmpty = true := by rw [state1]; rfl
                                have hst : ¬ (65536 : Int) < (state.size : Int) := by omega
                                have est : decide ((65536 : Int) < (state.size : Int)) = false := decide_eq_false hst
                                by_cases h64 : (64 : Int) < (nn : Int)
                                · have g64 : 64 < nn := by omega
                                  have e64 : decide ((64 : Int) < (nn : Int)) = true := decide_eq_true h64
                                  have HX1 := Lib.hid (show d5 = false by rw [HD5.out]; unfold wideB; simp [HBt.out.symm, HBT.out.symm, text3, gtx, state3, g64])
                                  go_wp2_with fail
                                  go_meet
                                  case rel => exact ⟨by rw [HX1.out]; rfl, HWZ.out⟩
                                · have g64 : ¬ 64 < nn := by omega
                                  have e64 : decide ((64 : Int) < (nn : Int)) = false := decide_eq_false h64
                                  have HX1 := Lib.hid (show d5 = true by rw [HD5.out]; unfold wideB; simp [HBt.out.symm, HBT.out.symm, text3, gtx, state3, g64])
                                  go_wp2_with fail
                                  go_meet
                                  case rel => exact ⟨by rw [HX1.out]; rfl, HWZ.out⟩
                              · have state3 := state0
                                have state1 : ¬ state.toList = [] := fun h => state0 (by
                                  have h2 : state.toList.length = 0 := by rw [h]; rfl
                                  rwa [ByteArray.toList_eq, Array.length_toList] at h2)
                                have state2 : state.toList.isEmpty = false := by rw [List.isEmpty_eq_false_iff]; exact state1
                                go_wp2_with fail
                                refine (HHT.out _).mono ?_
                                rintro e wz4 ⟨rfl, bz⟩
                                have HBR := Lib.hid (HBR.out.trans (bz.mono HBR.out.size))
                                have HWZ := Lib.hid (HWZ.out.trans (bz.mono HWZ.out.size))
                                clear bz x0 x11 x12 x14 x15
                                obtain ⟨x0, -, -, -, -, -, -, -, -, -, -, x11, x12, -, x14, x15⟩ := HCX.out _ HBR.out
                                cases bT with
                                | false =>
                                  have HX1 := Lib.hid (show d5 = false by rw [HD5.out]; unfold wideB; simp [HBt.out.symm, HBT.out.symm, text3, gtx, state3])
                                  go_wp2_with fail
                                  go_meet
                                  case rel => exact ⟨by rw [HX1.out]; rfl, HWZ.out⟩
                                | true =>
                                  by_cases hst : (65536 : Int) < (state.size : Int)
                                  · have gst : 65536 < state.size := by omega
                                    have est : decide ((65536 : Int) < (state.size : Int)) = true := decide_eq_true hst
                                    have HX1 := Lib.hid (show d5 = false by rw [HD5.out]; unfold wideB; simp [HBt.out.symm, HBT.out.symm, text3, gtx, state3, gst])
                                    go_wp2_with fail
                                    go_meet
                                    case rel => exact ⟨by rw [HX1.out]; rfl, HWZ.out⟩
                                  · have gst : ¬ 65536 < state.size := by omega
                                    have est : decide ((65536 : Int) < (state.size : Int)) = false := decide_eq_false hst
                                    by_cases h64 : (64 : Int) < (nn : Int)
                                    · have g64 : 64 < nn := by omega
                                      have e64 : decide ((64 : Int) < (nn : Int)) = true := decide_eq_true h64
                                      have HX1 := Lib.hid (show d5 = false by rw [HD5.out]; unfold wideB; simp [HBt.out.symm, HBT.out.symm, text3, gtx, state3, gst, g64])
                                      go_wp2_with fail
                                      go_meet
                                      case rel => exact ⟨by rw [HX1.out]; rfl, HWZ.out⟩
                                    · have g64 : ¬ 64 < nn := by omega
                                      have e64 : decide ((64 : Int) < (nn : Int)) = false := decide_eq_false h64
                                      have HX1 := Lib.hid (show d5 = true by rw [HD5.out]; unfold wideB; simp [HBt.out.symm, HBT.out.symm, text3, gtx, state3, gst, g64])
                                      go_wp2_with fail
                                      go_meet
                                      case rel => exact ⟨by rw [HX1.out]; rfl, HWZ.out⟩
                            · have k11 : (kind != 10) = true := by rw [bne_iff_ne]; exact k10
                              have HX1 := Lib.hid (show d5 = false by rw [HD5.out]; unfold wideB; simp [HBt.out.symm, HBT.out.symm, text3, gtx, k10])
                              go_wp2_with fail
                              go_meet
                              case rel => exact ⟨by rw [HX1.out]; rfl, HWZ.out⟩
                          | false =>
                            by_cases state0 : state.size = 0
                            · have state3 := state0
                              have states : state.size = 0 := state0
                              have state1 : state.toList = [] := by rw [size0 state state0, ByteArray.toList_eq]
                              have state2 : state.toList.isEmpty = true := by rw [state1]; rfl
                              have hst : ¬ (65536 : Int) < (state.size : Int) := by omega
                              have est : decide ((65536 : Int) < (state.size : Int)) = false := decide_eq_false hst
                              by_cases h64 : (64 : Int) < (nn : Int)
                              · have g64 : 64 < nn := by omega
                                have e64 : decide ((64 : Int) < (nn : Int)) = true := decide_eq_true h64
                                have HX1 := Lib.hid (show d5 = false by rw [HD5.out]; unfold wideB; simp [HBt.out.symm, HBT.out.symm, text3, gtx, state3, g64])
                                go_wp2_with fail
                                go_meet
                                case rel => exact ⟨by rw [HX1.out]; rfl, HWZ.out⟩
                              · have g64 : ¬ 64 < nn := by omega
                                have e64 : decide ((64 : Int) < (nn : Int)) = false := decide_eq_false h64
                                have HX1 := Lib.hid (show d5 = true by rw [HD5.out]; unfold wideB; simp [HBt.out.symm, HBT.out.symm, text3, gtx, state3, g64])
                                go_wp2_with fail
                                go_meet
                                case rel => exact ⟨by rw [HX1.out]; rfl, HWZ.out⟩
                            · have state3 := state0
                              have state1 : ¬ state.toList = [] := fun h => state0 (by
                                have h2 : state.toList.length = 0 := by rw [h]; rfl
                                rwa [ByteArray.toList_eq, Array.length_toList] at h2)
                              have state2 : state.toList.isEmpty = false := by rw [List.isEmpty_eq_false_iff]; exact state1
                              go_wp2_with fail
                              refine (HHT.out _).mono ?_
                              rintro e wz4 ⟨rfl, bz⟩
                              have HBR := Lib.hid (HBR.out.trans (bz.mono HBR.out.size))
                              have HWZ := Lib.hid (HWZ.out.trans (bz.mono HWZ.out.size))
                              clear bz x0 x11 x12 x14 x15
                              obtain ⟨x0, -, -, -, -, -, -, -, -, -, -, x11, x12, -, x14, x15⟩ := HCX.out _ HBR.out
                              cases bT with
                              | false =>
                                have HX1 := Lib.hid (show d5 = false by rw [HD5.out]; unfold wideB; simp [HBt.out.symm, HBT.out.symm, text3, gtx, state3])
                                go_wp2_with fail
                                go_meet
                                case rel => exact ⟨by rw [HX1.out]; rfl, HWZ.out⟩
                              | true =>
                                by_cases hst : (65536 : Int) < (state.size : Int)
                                · have gst : 65536 < state.size := by omega
                                  have est : decide ((65536 : Int) < (state.size : Int)) = true := decide_eq_true hst
                                  have HX1 := Lib.hid (show d5 = false by rw [HD5.out]; unfold wideB; simp [HBt.out.symm, HBT.out.symm, text3, gtx, state3, gst])
                                  go_wp2_with fail
                                  go_meet
                                  case rel => exact ⟨by rw [HX1.out]; rfl, HWZ.out⟩
                                · have gst : ¬ 65536 < state.size := by omega
                                  have est : decide ((65536 : Int) < (state.size : Int)) = false := decide_eq_false hst
                                  by_cases h64 : (64 : Int) < (nn : Int)
                                  · have g64 : 64 < nn := by omega
                                    have e64 : decide ((64 : Int) < (nn : Int)) = true := decide_eq_true h64
                                    have HX1 := Lib.hid (show d5 = false by rw [HD5.out]; unfold wideB; simp [HBt.out.symm, HBT.out.symm, text3, gtx, state3, gst, g64])
                                    go_wp2_with fail
                                    go_meet
                                    case rel => exact ⟨by rw [HX1.out]; rfl, HWZ.out⟩
                                  · have g64 : ¬ 64 < nn := by omega
                                    have e64 : decide ((64 : Int) < (nn : Int)) = false := decide_eq_false h64
                                    have HX1 := Lib.hid (show d5 = true by rw [HD5.out]; unfold wideB; simp [HBt.out.symm, HBT.out.symm, text3, gtx, state3, gst, g64])
                                    go_wp2_with fail
                                    go_meet
                                    case rel => exact ⟨by rw [HX1.out]; rfl, HWZ.out⟩
                  case rest =>
                    obtain ⟨rfl, hwb⟩ := hcut
                    obtain ⟨w2, hw2⟩ : ∃ y, y = wc := ⟨_, rfl⟩
                    rw [← hw2] at hwb ⊢
                    have HBR := Lib.hid (HBR.out.trans (hwb.mono HBR.out.size))
                    clear hw2 hwb HWZ x0 x11 x12 x14 x15
                    cases d5 with
                    | false =>
                      go_wp2_with fail
                      go_ret
                      exact ⟨by rw [HQ.out]; rfl, HB.out.trans (HBR.out.mono HB.out.size)⟩
                    | true =>
                      have hq := HQ.out
                      rw [Bool.true_and] at hq
                      have HQ := Lib.hid hq
                      clear hq
                      obtain ⟨-, -, -, -, -, -, -, -, -, -, -, -, -, -, -, x15⟩ := HCX.out _ HBR.out
                      go_wp2_with fail
                      clear x15
                      go_loopw [11] (fun i wr => ∃ k : Nat, i = .int .i64 k ∧ k ≤ nn ∧ Below V.heap.size V wr ∧ (ents.take k).any badX = false) (fun i _ => nn - (intOf i).toNat)
                      case atStart => exact ⟨0, rfl, Nat.zero_le _, HBR.out, rfl⟩
                      case round =>
                        obtain ⟨k, rfl, hk, hb, hall⟩ := hrel
                        have HBR := Lib.hid hb
                        have HALL := Lib.hid hall
                        clear hb hall
                        obtain ⟨-, -, -, -, -, -, -, -, -, -, -, -, -, -, -, x15⟩ := HCX.out _ HBR.out
                        by_cases hlt : k < nn
                        · have hlt2 : (k : Int) < (nn : Int) := by omega
                          obtain ⟨b9, o9, rfl, hb9, c0, c1, c2⟩ := (HE.out.under HBR.out).get k hlt
                          have HKL := Lib.hid (show k < ents.length by rw [← HNN.out]; exact hlt)
                          obtain ⟨x, hx⟩ : ∃ x, x = ents[k]'HKL.out := ⟨_, rfl⟩
                          rw [← hx] at c0 c1 c2
                          have HSN := Lib.hid (show (ents.take (k + 1)).any badX = badX x by rw [List.take_succ_eq_append_getElem HKL.out, List.any_append, HALL.out, ← hx]; simp)
                          have HEND := Lib.hid (fun (h : badX x = true) => show d6 = false by
                            rw [HD6.out, List.any_eq_true.2 ⟨x, by rw [hx]; exact List.getElem_mem _, h⟩]; rfl)
                          clear hx
                          obtain ⟨y0, y1, y2⟩ := x
                          dsimp only at c0 c1 c2
                          obtain ⟨U, hU⟩ : ∃ U, U = wr.alloc (.cells #[.int .i64 y0, .int .i64 y1, .string y2] 53) := ⟨_, rfl⟩
                          have hbU : Below wr.heap.size wr U := by rw [hU]; exact (Below.refl _ _).alloc (Nat.le_refl _) _
                          have hxU : U.heap[wr.heap.size]? = some (.cells #[.int .i64 y0, .int .i64 y1, .string y2] 53 (0, 0)) := by rw [hU]; exact heap_alloc_new _ _
                          obtain ⟨eq, heq⟩ : ∃ e, e = wr.heap.size := ⟨_, rfl⟩
                          rw [← heq] at hxU
                          have HU := Lib.hid hU
                          have HEQ := Lib.hid heq
                          have HXU := Lib.hid hxU
                          have HBU := Lib.hid (HBR.out.trans (hbU.mono HBR.out.size))
                          clear hU heq hxU hbU
                          go_upto_region 25 with fail
                          rw [← HU.out, ← HEQ.out]
                          clear x15 c0 c1 c2 HU
                          obtain ⟨bx6, hbx6⟩ : ∃ b, b = badX ⟨y0, y1, y2⟩ := ⟨_, rfl⟩
                          rw [← hbx6] at HSN HEND
                          have HB6X := Lib.hid hbx6
                          have HNC := Lib.hid (fun (w : World) => number_any y1 w)
                          have e0 := cell_of_row _ _ 0 _ _ (0, 0) HXU.out
                          have e1 := cell_of_row _ _ 1 _ _ (0, 0) HXU.out
                          have e2 := cell_of_row _ _ 2 _ _ (0, 0) HXU.out
                          clear hbx6
                          go_cut [219] from 183 to 218 (fun s wx => s = .bool bx6 ∧ Below U.heap.size U wx)
                          case first =>
                            by_cases g0 : y0 < 0
                            · have HX1 := Lib.hid (show bx6 = true by rw [HB6X.out]; unfold badX; simp [g0])
                              go_wp2_with fail
                              go_meet
                              case rel => exact ⟨by rw [HX1.out], Below.refl _ _⟩
                            · by_cases g1 : 2 < y0
                              · have HX1 := Lib.hid (show bx6 = true by rw [HB6X.out]; unfold badX; simp [g1])
                                go_wp2_with fail
                                go_meet
                                case rel => exact ⟨by rw [HX1.out], Below.refl _ _⟩
                              · by_cases g2 : y1 < 1
                                · have HX1 := Lib.hid (show bx6 = true by rw [HB6X.out]; unfold badX; simp [g2])
                                  go_wp2_with fail
                                  go_meet
                                  case rel => exact ⟨by rw [HX1.out], Below.refl _ _⟩
                                · go_wp2_with fail
                                  refine (HNC.out _).mono ?_
                                  rintro e wz ⟨rfl, bz⟩
                                  have HBZ := Lib.hid bz
                                  have e2 := (bz.cell (p := ⟨eq, 2, none⟩) (World.block_lt_of_cell? _ _ e2)).trans e2
                                  clear bz
                                  obtain ⟨bn, hbn⟩ : ∃ b, b = badN y1 := ⟨_, rfl⟩
                                  rw [← hbn]
                                  have HBF := Lib.hid hbn.symm
                                  clear hbn
                                  cases bn with
                                  | true =>
                                    have HX1 := Lib.hid (show bx6 = true by rw [HB6X.out]; unfold badX; simp [HBF.out])
                                    go_wp2_with fail
                                    go_meet
                                    case rel => exact ⟨by rw [HX1.out], HBZ.out⟩
                                  | false =>
                                    by_cases g3 : (8192 : Int) < (y2.size : Int)
                                    · have g4 : 8192 < y2.size := by omega
                                      have g5 : decide ((8192 : Int) < (y2.size : Int)) = true := decide_eq_true g3
                                      have HX1 := Lib.hid (show bx6 = true by rw [HB6X.out]; unfold badX; simp [g4])
                                      go_wp2_with fail
                                      go_meet
                                      case rel => exact ⟨by rw [HX1.out], HBZ.out⟩
                                    · have g4 : ¬ 8192 < y2.size := by omega
                                      have g5 : decide ((8192 : Int) < (y2.size : Int)) = false := decide_eq_false g3
                                      have HX1 := Lib.hid (show bx6 = false by rw [HB6X.out]; unfold badX; simp [g0, g1, g2, g4, HBF.out])
                                      go_wp2_with fail
                                      go_meet
                                      case rel => exact ⟨by rw [HX1.out], HBZ.out⟩
                          case rest =>
                            obtain ⟨rfl, hwb⟩ := hcut
                            obtain ⟨w6, hw6⟩ : ∃ y, y = wc := ⟨_, rfl⟩
                            rw [← hw6] at hwb ⊢
                            have HB6 := Lib.hid (HBU.out.trans (hwb.mono HBU.out.size))
                            clear hw6 hwb e0 e1 e2 HNC HB6X
                            cases bx6 with
                            | true =>
                              have HX1 := Lib.hid (HEND.out rfl)
                              go_wp2_with fail
                              go_ret
                              exact ⟨by rw [HQ.out, HX1.out]; rfl, HB.out.trans (HB6.out.mono HB.out.size)⟩
                            | false =>
                              go_wp2_with fail
                              go_roundw
                              case rel => exact ⟨k + 1, by go_num, by omega, HB6.out, HSN.out⟩
                              case measure => simp [intOf]; omega
                        · have hke : nn = k := by omega
                          subst hke
                          have HX2 := Lib.hid (show d6 = true by
                            have := HALL.out
                            rw [List.take_of_length_le (by rw [← HNN.out]; exact Nat.le_refl _)] at this
                            rw [HD6.out, this]; rfl)
                          have hq := HQ.out
                          rw [HX2.out, Bool.true_and] at hq
                          have HQ := Lib.hid hq
                          clear hq HALL hlt hk
                          obtain ⟨-, -, -, -, -, -, -, -, x8, x9, -, -, -, -, -, -⟩ := HCX.out _ HBR.out
                          go_upto_region 27 with fail
                          clear x15
                          have HWZ := Lib.hid (Below.refl wr.heap.size wr)
                          go_cut [231] from 220 to 230 (fun s wx => s = .bool (!d7) ∧ Below wr.heap.size wr wx)
                          case first =>
                            go_wp2_with fail
                            refine (HHi.out _).mono ?_
                            rintro e wz ⟨rfl, bz⟩
                            have HBZ := Lib.hid bz
                            have HBR := Lib.hid (HBR.out.trans (bz.mono HBR.out.size))
                            clear bz x8 x9
                            obtain ⟨-, -, -, -, -, -, -, -, x8, x9, -, -, -, -, -, -⟩ := HCX.out _ HBR.out
                            cases bi with
                            | false =>
                              have HX1 := Lib.hid (show d7 = true by rw [HD7.out]; rfl)
                              go_wp2_with fail
                              go_meet
                              case rel => exact ⟨by rw [HX1.out]; rfl, HBZ.out⟩
                            | true =>
                              by_cases g0 : 2 < client
                              · have j0 : decide (2 < client) = true := decide_eq_true g0
                                have HX1 := Lib.hid (show d7 = false by rw [HD7.out]; simp [g0])
                                go_wp2_with fail
                                go_meet
                                case rel => exact ⟨by rw [HX1.out]; rfl, HBZ.out⟩
                              · by_cases g1 : number < 1
                                · have j0 : decide (2 < client) = false := decide_eq_false g0
                                  have j1 : decide (number < 1) = true := decide_eq_true g1
                                  have HX1 := Lib.hid (show d7 = false by rw [HD7.out]; simp [g1])
                                  go_wp2_with fail
                                  go_meet
                                  case rel => exact ⟨by rw [HX1.out]; rfl, HBZ.out⟩
                                · have j0 : decide (2 < client) = false := decide_eq_false g0
                                  have j1 : decide (number < 1) = false := decide_eq_false g1
                                  have HX1 := Lib.hid (show d7 = true by rw [HD7.out]; simp [g0, g1])
                                  go_wp2_with fail
                                  go_meet
                                  case rel => exact ⟨by rw [HX1.out]; rfl, HBZ.out⟩
                          case rest =>
                            obtain ⟨rfl, hwb⟩ := hcut
                            obtain ⟨w7, hw2⟩ : ∃ y, y = wc := ⟨_, rfl⟩
                            rw [← hw2] at hwb ⊢
                            have HBR := Lib.hid (HBR.out.trans (hwb.mono HBR.out.size))
                            clear hw2 hwb HWZ x8 x9
                            cases d7 with
                            | false =>
                              go_wp2_with fail
                              go_ret
                              exact ⟨by rw [HQ.out]; rfl, HB.out.trans (HBR.out.mono HB.out.size)⟩
                            | true =>
                              have hq := HQ.out
                              rw [Bool.true_and] at hq
                              have HQ := Lib.hid hq
                              clear hq
                              obtain ⟨-, -, -, -, -, -, -, -, -, -, x10, -, -, -, -, -⟩ := HCX.out _ HBR.out
                              go_upto_region 29 with fail
                              have HWZ := Lib.hid (Below.refl w7.heap.size w7)
                              go_cut [238] from 232 to 237 (fun s wx => s = .bool (!d8) ∧ Below w7.heap.size w7 wx)
                              case first =>
                                go_wp2_with fail
                                refine (HHx.out _).mono ?_
                                rintro e wz ⟨rfl, bz⟩
                                have HBZ := Lib.hid bz
                                have HBR := Lib.hid (HBR.out.trans (bz.mono HBR.out.size))
                                clear bz x10
                                obtain ⟨-, -, -, -, -, -, -, -, -, -, x10, -, -, -, -, -⟩ := HCX.out _ HBR.out
                                cases bx with
                                | false =>
                                  have HX1 := Lib.hid (show d8 = true by rw [HD8.out]; rfl)
                                  go_wp2_with fail
                                  go_meet
                                  case rel => exact ⟨by rw [HX1.out]; rfl, HBZ.out⟩
                                | true =>
                                  by_cases g0 : nonce < 1
                                  · have j0 : decide (nonce < 1) = true := decide_eq_true g0
                                    have HX1 := Lib.hid (show d8 = false by rw [HD8.out]; simp [g0])
                                    go_wp2_with fail
                                    go_meet
                                    case rel => exact ⟨by rw [HX1.out]; rfl, HBZ.out⟩
                                  · have j0 : decide (nonce < 1) = false := decide_eq_false g0
                                    have HX1 := Lib.hid (show d8 = true by rw [HD8.out]; simp [g0])
                                    go_wp2_with fail
                                    go_meet
                                    case rel => exact ⟨by rw [HX1.out]; rfl, HBZ.out⟩
                              case rest =>
                                obtain ⟨rfl, hwb⟩ := hcut
                                obtain ⟨w8, hw2⟩ : ∃ y, y = wc := ⟨_, rfl⟩
                                rw [← hw2] at hwb ⊢
                                have HBR := Lib.hid (HBR.out.trans (hwb.mono HBR.out.size))
                                clear hw2 hwb HWZ x10
                                cases d8 with
                                | false =>
                                  go_wp2_with fail
                                  go_ret
                                  exact ⟨by rw [HQ.out]; rfl, HB.out.trans (HBR.out.mono HB.out.size)⟩
                                | true =>
                                  have hq := HQ.out
                                  rw [Bool.true_and] at hq
                                  have HQ := Lib.hid hq
                                  clear hq
                                  obtain ⟨-, -, -, -, -, -, x6, x7, -, -, -, -, -, -, -, -⟩ := HCX.out _ HBR.out
                                  go_upto_region 31 with fail
                                  have HWZ := Lib.hid (Below.refl w8.heap.size w8)
                                  go_cut [247] from 239 to 246 (fun s wx => s = .bool (!d9) ∧ Below w8.heap.size w8 wx)
                                  case first =>
                                    go_wp2_with fail
                                    refine (HHc.out _).mono ?_
                                    rintro e wz ⟨rfl, bz⟩
                                    have HBZ := Lib.hid bz
                                    have HBR := Lib.hid (HBR.out.trans (bz.mono HBR.out.size))
                                    clear bz x6 x7
                                    obtain ⟨-, -, -, -, -, -, x6, x7, -, -, -, -, -, -, -, -⟩ := HCX.out _ HBR.out
                                    cases bc with
                                    | false =>
                                      have HX1 := Lib.hid (show d9 = true by rw [HD9.out]; rfl)
                                      go_wp2_with fail
                                      go_meet
                                      case rel => exact ⟨by rw [HX1.out]; rfl, HBZ.out⟩
                                    | true =>
                                      by_cases g0 : op < commit
                                      · have j0 : decide (op < commit) = true := decide_eq_true g0
                                        have HX1 := Lib.hid (show d9 = false by rw [HD9.out]; simp [g0])
                                        go_wp2_with fail
                                        go_meet
                                        case rel => exact ⟨by rw [HX1.out]; rfl, HBZ.out⟩
                                      · have j0 : decide (op < commit) = false := decide_eq_false g0
                                        have HX1 := Lib.hid (show d9 = true by rw [HD9.out]; simp [g0])
                                        go_wp2_with fail
                                        go_meet
                                        case rel => exact ⟨by rw [HX1.out]; rfl, HBZ.out⟩
                                  case rest =>
                                    obtain ⟨rfl, hwb⟩ := hcut
                                    obtain ⟨w9, hw2⟩ : ∃ y, y = wc := ⟨_, rfl⟩
                                    rw [← hw2] at hwb ⊢
                                    have HBR := Lib.hid (HBR.out.trans (hwb.mono HBR.out.size))
                                    clear hw2 hwb HWZ x6 x7
                                    cases d9 with
                                    | false =>
                                      go_wp2_with fail
                                      go_ret
                                      exact ⟨by rw [HQ.out]; rfl, HB.out.trans (HBR.out.mono HB.out.size)⟩
                                    | true =>
                                      have hq := HQ.out
                                      rw [Bool.true_and] at hq
                                      have HQ := Lib.hid hq
                                      clear hq
                                      go_wp2_with fail
                                      refine (HHe.out _).mono ?_
                                      rintro e wz ⟨rfl, bz⟩
                                      have HBR := Lib.hid (HBR.out.trans (bz.mono HBR.out.size))
                                      clear bz
                                      cases be with
                                      | true =>
                                        obtain ⟨-, -, -, -, -, -, x6, -, -, -, -, -, -, -, -, x15⟩ := HCX.out _ HBR.out
                                        by_cases g0 : nn = 1
                                        · have g2 : ((nn : Int) == 1) = true := by rw [g0]; rfl
                                          have g3 : (nn : Int) = 1 := by omega
                                          by_cases g1 : 0 < op
                                          · have HX1 := Lib.hid (show d10 = true by rw [HD10.out]; simp [g0, g1])
                                            have j1 : decide (0 < op) = true := decide_eq_true g1
                                            clear g0
                                            go_wp2_with fail
                                            go_ret
                                            exact ⟨by rw [HQ.out, HX1.out]; rfl, HB.out.trans (HBR.out.mono HB.out.size)⟩
                                          · have HX1 := Lib.hid (show d10 = false by rw [HD10.out]; simp [g0, g1])
                                            have j1 : decide (0 < op) = false := decide_eq_false g1
                                            clear g0
                                            go_wp2_with fail
                                            go_ret
                                            exact ⟨by rw [HQ.out, HX1.out]; rfl, HB.out.trans (HBR.out.mono HB.out.size)⟩
                                        · have g2 : ((nn : Int) == 1) = false := by rw [beq_eq_false_iff_ne]; omega
                                          have g3 : ¬ (nn : Int) = 1 := by omega
                                          have HX1 := Lib.hid (show d10 = false by rw [HD10.out]; simp [g0])
                                          go_wp2_with fail
                                          go_ret
                                          exact ⟨by rw [HQ.out, HX1.out]; rfl, HB.out.trans (HBR.out.mono HB.out.size)⟩
                                      | false =>
                                        go_wp2_with fail
                                        refine (HHT.out _).mono ?_
                                        rintro e wz ⟨rfl, bz⟩
                                        have HBR := Lib.hid (HBR.out.trans (bz.mono HBR.out.size))
                                        clear bz
                                        cases bT with
                                        | false =>
                                          obtain ⟨-, -, -, -, -, -, -, -, -, -, -, -, -, -, -, x15⟩ := HCX.out _ HBR.out
                                          by_cases g0 : nn = 0
                                          · have g3 : (nn : Int) = 0 := by omega
                                            have g4 : ((nn : Int) == 0) = true := by rw [g3]; rfl
                                            have HX1 := Lib.hid (show d10 = true by rw [HD10.out]; simp [g0])
                                            clear g0
                                            go_wp2_with fail
                                            go_ret
                                            exact ⟨by rw [HQ.out, HX1.out]; rfl, HB.out.trans (HBR.out.mono HB.out.size)⟩
                                          · have g3 : ¬ (nn : Int) = 0 := by omega
                                            have g4 : ((nn : Int) == 0) = false := by rw [beq_eq_false_iff_ne]; exact g3
                                            have HX1 := Lib.hid (show d10 = false by rw [HD10.out]; simp [g0])
                                            clear g0
                                            go_wp2_with fail
                                            go_ret
                                            exact ⟨by rw [HQ.out, HX1.out]; rfl, HB.out.trans (HBR.out.mono HB.out.size)⟩
                                        | true =>
                                          obtain ⟨-, -, -, -, x4, x5, x6, x7, -, -, -, -, -, x13, x14, x15⟩ := HCX.out _ HBR.out
                                          have hw1 : IntKind.i64.wrap (op - base) = op - base := IntWalk.i64_in _ (by have := HNO.out; omega)
                                          by_cases g0 : last ≤ view
                                          · by_cases g1 : base ≤ commit
                                            · by_cases g2 : (nn : Int) = op - base
                                              · by_cases g3 : 0 < base
                                                · have HX1 := Lib.hid (show d10 = true by rw [HD10.out]; simp [g0, g1, g2, g3])
                                                  have j0 : decide (last ≤ view) = true := decide_eq_true g0
                                                  have j1 : decide (base ≤ commit) = true := decide_eq_true g1
                                                  have j3 : decide (0 < base) = true := decide_eq_true g3
                                                  go_wp2_with fail
                                                  go_ret
                                                  exact ⟨by rw [HQ.out, HX1.out]; rfl, HB.out.trans (HBR.out.mono HB.out.size)⟩
                                                · by_cases state0 : state.size = 0
                                                  · have states : state.size = 0 := state0
                                                    have state1 : state.toList = [] := by rw [size0 state state0, ByteArray.toList_eq]
                                                    have state2 : state.toList.isEmpty = true := by rw [state1]; rfl
                                                    have HX1 := Lib.hid (show d10 = true by rw [HD10.out]; simp [g0, g1, g2, g3, state0])
                                                    have j0 : decide (last ≤ view) = true := decide_eq_true g0
                                                    have j1 : decide (base ≤ commit) = true := decide_eq_true g1
                                                    have j3 : decide (0 < base) = false := decide_eq_false g3
                                                    clear states state0
                                                    go_wp2_with fail
                                                    go_ret
                                                    exact ⟨by rw [HQ.out, HX1.out]; rfl, HB.out.trans (HBR.out.mono HB.out.size)⟩
                                                  · have state1 : ¬ state.toList = [] := fun h => state0 (by
                                                      have h2 : state.toList.length = 0 := by rw [h]; rfl
                                                      rwa [ByteArray.toList_eq, Array.length_toList] at h2)
                                                    have state2 : state.toList.isEmpty = false := by rw [List.isEmpty_eq_false_iff]; exact state1
                                                    have HX1 := Lib.hid (show d10 = false by rw [HD10.out]; simp [g0, g1, g2, g3, state0])
                                                    have j0 : decide (last ≤ view) = true := decide_eq_true g0
                                                    have j1 : decide (base ≤ commit) = true := decide_eq_true g1
                                                    have j3 : decide (0 < base) = false := decide_eq_false g3
                                                    go_wp2_with fail
                                                    go_ret
                                                    exact ⟨by rw [HQ.out, HX1.out]; rfl, HB.out.trans (HBR.out.mono HB.out.size)⟩
                                              · have HX1 := Lib.hid (show d10 = false by rw [HD10.out]; simp [g2, g0, g1])
                                                have j0 : decide (last ≤ view) = true := decide_eq_true g0
                                                have j1 : decide (base ≤ commit) = true := decide_eq_true g1
                                                go_wp2_with fail
                                                go_ret
                                                exact ⟨by rw [HQ.out, HX1.out]; rfl, HB.out.trans (HBR.out.mono HB.out.size)⟩
                                            · have HX1 := Lib.hid (show d10 = false by rw [HD10.out]; simp [g1, g0])
                                              have j1 : decide (base ≤ commit) = false := decide_eq_false g1
                                              have j0 : decide (last ≤ view) = true := decide_eq_true g0
                                              go_wp2_with fail
                                              go_ret
                                              exact ⟨by rw [HQ.out, HX1.out]; rfl, HB.out.trans (HBR.out.mono HB.out.size)⟩
                                          · have HX1 := Lib.hid (show d10 = false by rw [HD10.out]; simp [g0])
                                            have j0 : decide (last ≤ view) = false := decide_eq_false g0
                                            go_wp2_with fail
                                            go_ret
                                            exact ⟨by rw [HQ.out, HX1.out]; rfl, HB.out.trans (HBR.out.mono HB.out.size)⟩
end Go.Proofs.YtfeelmblnkpfdaaDoor.Ms
