/-
  The walk of Shortest.
-/
import Derived.Test.YtlkijnglpllcdaaFxLeast
namespace Go.Proofs.Ytlkijnglpllcdaa.Fx
open Go.RowKit
set_option maxRecDepth 100000

abbrev ivs (L : List Int) : Array Value := (L.map (Value.int .i64)).toArray
/-- A row of numbers, whole. -/
def RowAt (W : World) (b : Nat) (L : List Int) : Prop := W.heap[b]? = some (.cells (ivs L) 3 (0, 0))
theorem RowAt.cell {W : World} {b : Nat} {L : List Int} (h : RowAt W b L) (i : Nat) (hi : i < L.length) : W.cell? ⟨b, i, none⟩ = some (.int .i64 L[i]) := by
  rw [cell_of_row _ _ i _ _ (0, 0) h]; simp [hi]
theorem RowAt.frozen {W : World} {b : Nat} {L : List Int} (h : RowAt W b L) (j : Nat) : W.frozen? ⟨b, j, none⟩ = false := Gn.frozen_row h j
theorem RowAt.set {W : World} {b : Nat} {L : List Int} (h : RowAt W b L) (k : Nat) (c : Int) : RowAt (W.setCell ⟨b, k, none⟩ (.int .i64 c)) b (L.set k c) := by
  have := Gn.heap_set h k (.int .i64 c)
  unfold RowAt
  rw [this]
  simp [List.map_set]
theorem RowAt.ints {W : World} {b : Nat} {L : List Int} (h : RowAt W b L) : IntsAt (fun q => q = b) W L (.slice (some ⟨b, 0, none⟩) L.length L.length) :=
  ⟨_, _, b, rfl, Nat.le_refl _, fun _ => ⟨rfl, Gn.heap_lt h, rfl⟩, fun i hi => h.cell i hi⟩

/-- Within Shortest's loops: the grammar's box, the lengths. -/
structure LenAt (W0 : World) (g : PG) (b : Nat) (cs : Array Value) (W : World) (L : List Int) : Prop where
  box : W.heap[W0.heap.size]? = some (.cells cs 30 (0, 0))
  row : RowAt W b L
  runs : Runs g L
  below : Below W0.heap.size W0 W
theorem LenAt.alloc {W0 W : World} {g : PG} {b : Nat} {cs : Array Value} {L : List Int} (h : LenAt W0 g b cs W L) (o : Obj) : LenAt W0 g b cs (W.alloc o) L :=
  ⟨(heap_alloc_old W o (Gn.heap_lt h.box)).trans h.box, (heap_alloc_old W o (Gn.heap_lt h.row)).trans h.row, h.runs, h.below.alloc h.below.size _⟩
theorem LenAt.set {W0 W : World} {g : PG} {b : Nat} {cs : Array Value} {L : List Int} (h : LenAt W0 g b cs W L) (hb : W0.heap.size < b) (k : Nat) (c : Int) (hr : Runs g (L.set k c)) : LenAt W0 g b cs (W.setCell ⟨b, k, none⟩ (.int .i64 c)) (L.set k c) :=
  ⟨(Gn.set_keep W k _ (by omega)).trans h.box, h.row.set k c, hr, h.below.setCell (show W0.heap.size ≤ b by omega) _⟩
/-- A pass over the first productions. -/
def PassAt (g : PG) (L0 L : List Int) (k : Nat) (b : Bool) : Prop := (b = false → L = L0 ∧ ∀ (j : Nat) (h : j < g.prods.length), j < k → FixAt L0 g.prods[j]) ∧ (b = true → wtL L < wtL L0)

theorem pass_same {g : PG} {L0 L : List Int} {k : Nat} {b : Bool} {h : k < g.prods.length} (hp : PassAt g L0 L k b) (hf : b = false → FixAt L g.prods[k]) : PassAt g L0 L (k + 1) b := by
  refine ⟨fun hb => ?_, hp.2⟩
  obtain ⟨h1, h2⟩ := hp.1 hb
  refine ⟨h1, fun j hj hjk => ?_⟩
  rcases Nat.lt_or_ge j k with h3 | h3
  · exact h2 j hj h3
  · obtain rfl : j = k := by omega
    have := hf hb
    rwa [h1] at this
theorem pass_less {g : PG} {L0 L L' : List Int} {k : Nat} {b : Bool} (hp : PassAt g L0 L k b) (hl : wtL L' < wtL L) : PassAt g L0 L' (k + 1) true := by
  refine ⟨(fun h => by cases h), fun _ => ?_⟩
  cases b
  · rw [(hp.1 rfl).1] at hl; exact hl
  · have := hp.2 rfl; omega
def flg : Value → Nat
  | .bool true => 1
  | _ => 0
/-- The shortest lengths are told. -/
def Lens (g : PG) (W : World) (e : Ending) (w' : World) : Prop := ∃ (b : Nat) (L : List Int), e = .returned (.slice (some ⟨b, 0, none⟩) L.length L.length) ∧ W.heap.size ≤ b ∧ RowAt w' b L ∧ Least g L ∧ Below W.heap.size W w'

set_option maxHeartbeats 16000000 in
theorem shortest_any (g : PG) (hs : g.Fits) (hsd : soundB g = true) (P : Nat → Prop) (W : World) (v : Value) (h : PgAt P W g v) :
    Calls Try.prog 10 #[v] W (Lens g W) := by
  have hS := snd_of hsd
  obtain ⟨An, At_, Ap, cn, ct, cp, rfl, hN, hT, hP⟩ := h.open_
  have hbb : Below W.heap.size W (W.alloc (.cells #[.int .i64 g.start, .int .i64 g.rules, .slice An g.names.length cn, .slice At_ g.terms.length ct, .slice Ap g.prods.length cp] 30)) := (Below.refl _ _).alloc (Nat.le_refl _) _
  have hbx := heap_alloc_new W (.cells #[.int .i64 g.start, .int .i64 g.rules, .slice An g.names.length cn, .slice At_ g.terms.length ct, .slice Ap g.prods.length cp] 30)
  have KS := sound_any g hs P _ _ (h.under hbb)
  rw [hsd] at KS
  obtain ⟨n, hn⟩ : ∃ n, n = g.names.length := ⟨_, rfl⟩
  obtain ⟨np, hnp⟩ : ∃ np, np = g.prods.length := ⟨_, rfl⟩
  have hn1 : 1 ≤ n := by have := hS.start; omega
  have hn2 : n ≤ 256 := by have := hS.few.1; omega
  have hnp2 : np ≤ 256 := by have := hS.few.2.2; omega
  rw [← hn, ← hnp] at KS hbx hbb
  rw [← hn, ← hnp]
  have HKS := Lib.hid KS
  have HBX := Lib.hid hbx
  have HBB := Lib.hid hbb
  have HS := Lib.hid hS
  have HP := Lib.hid hP
  have HNN := Lib.hid hn
  have HNP := Lib.hid hnp
  obtain ⟨lt, hlt⟩ : ∃ lt, lt = g.terms.length := ⟨_, rfl⟩
  rw [← hlt] at HKS HBX HBB ⊢
  obtain ⟨st, hst⟩ : ∃ st, st = g.start := ⟨_, rfl⟩
  rw [← hst] at HKS HBX HBB ⊢
  obtain ⟨ru, hru⟩ : ∃ ru, ru = g.rules := ⟨_, rfl⟩
  rw [← hru] at HKS HBX HBB ⊢
  have KR := Lib.hid (fun b cap w h1 h2 => repeat_any (-1) b cap w h1 h2 n hn1 (by omega))
  clear h hN hT hP hbb hbx KS hsd hS hs hn hnp hlt hst hru
  go_enter Try.func10, Try.ntmps10
  go_wp2_with fail
  refine HKS.out.mono ?_
  rintro e w1 ⟨rfl, b1⟩
  have hbx1 := (b1.block _ (Gn.heap_lt HBX.out)).trans HBX.out
  have HB1 := Lib.hid (HBB.out.trans (b1.mono HBB.out.size))
  have c2a : ∀ o, (w1.alloc o).cell? ⟨W.heap.size, 2, none⟩ = some (.slice An n cn) := fun o => cell_of_row _ _ 2 _ _ (0, 0) ((heap_alloc_old w1 o (Gn.heap_lt hbx1)).trans hbx1)
  have HBX1 := Lib.hid hbx1
  clear b1 hbx1 HKS
  go_wp2_with fail
  have hx := heap_alloc_new w1 (.cells #[.int .i64 (-1)] 3)
  have hxb := (heap_alloc_old w1 (.cells #[.int .i64 (-1)] 3) (Gn.heap_lt HBX1.out)).trans HBX1.out
  have hxl : w1.heap.size < (w1.alloc (.cells #[.int .i64 (-1)] 3)).heap.size := by simp
  have HBW := Lib.hid (HB1.out.alloc HB1.out.size (.cells #[.int .i64 (-1)] 3))
  generalize hV : World.alloc w1 _ = V
  rw [hV] at hx hxb hxl HBW
  clear hV
  have HXB := Lib.hid hxb
  refine (KR.out w1.heap.size 1 V (cell_of_row _ _ 0 _ _ (0, 0) hx) hxl).mono ?_
  rintro e w2 ⟨b, rfl, hb, hrow, b2⟩
  have hbl : W.heap.size < b := by have := Gn.heap_lt HXB.out; omega
  have hL0 : LenAt W g b #[.int .i64 st, .int .i64 ru, .slice An n cn, .slice At_ lt ct, .slice Ap np cp] w2 (List.replicate n (-1)) := ⟨(b2.block _ (Gn.heap_lt HXB.out)).trans HXB.out, by unfold RowAt ivs; rw [List.map_replicate]; exact hrow, by rw [HNN.out]; exact Runs.start, HBW.out.trans (b2.mono HBW.out.size)⟩
  have HL0 := Lib.hid hL0
  clear hx hxb hxl hrow b2 hL0 c2a hb
  go_wp2_with fail
  go_loopw [4] (fun v wr => ∃ (L : List Int) (t : Bool), v = .bool t ∧ LenAt W g b #[.int .i64 st, .int .i64 ru, .slice An n cn, .slice At_ lt ct, .slice Ap np cp] wr L ∧ (t = false → Fix g L)) (fun v wr => wtW wr b + flg v)
  case atStart => exact ⟨_, true, rfl, HL0.out, fun h => by cases h⟩
  case round =>
    obtain ⟨L0, t, rfl, hL, hfx⟩ := hrel
    cases t
    · have HF := Lib.hid (hfx rfl)
      have HL := Lib.hid hL
      have hlen := (runs_ok hL.runs).1
      have hln : L0.length = n := by rw [hlen, ← HNN.out]
      clear hL hfx hlen
      have HLN := Lib.hid hln
      clear hln
      go_wp2
      go_ret
      exact ⟨b, L0, by rw [HLN.out]; rfl, Nat.le_of_lt hbl, HL.out.row, ⟨HL.out.runs, HF.out⟩, HL.out.below⟩
    · have HMS := Lib.hid (wtW_is hL.row)
      have c4 : wr.cell? ⟨W.heap.size, 4, none⟩ = some (.slice Ap np cp) := cell_of_row _ _ 4 _ _ (0, 0) hL.box
      have HL := Lib.hid hL
      clear hL hfx HL0
      obtain ⟨wo, rfl⟩ : ∃ wo : World, wo = wr := ⟨_, rfl⟩
      go_wp2_with fail
      go_loopw [4, 21] (fun v i wq => ∃ (L : List Int) (t : Bool) (k : Nat), v = .bool t ∧ k ≤ np ∧ i = .int .i64 k ∧ LenAt W g b #[.int .i64 st, .int .i64 ru, .slice An n cn, .slice At_ lt ct, .slice Ap np cp] wq L ∧ PassAt g L0 L k t) (fun _ i _ => np - (intOf i).toNat)
      case atStart => exact ⟨L0, false, 0, rfl, Nat.zero_le _, rfl, HL.out, fun _ => ⟨rfl, fun j _ hj => absurd hj (by omega)⟩, fun h => by cases h⟩
      case round =>
        obtain ⟨L, t, k, rfl, hk, rfl, hA, hpass⟩ := hrel
        by_cases hlt : k < np
        · have h1 : k < g.prods.length := by rw [← HNP.out]; exact hlt
          obtain ⟨A', cap', bb, f, e1, _, e3, e4⟩ := HP.out
          injection e1 with e1 _ e5
          subst e1
          subst e5
          obtain ⟨eA, hr, _⟩ := e3 (by omega)
          subst eA
          obtain ⟨x0, x1, xi⟩ := e4 k h1
          have hmem : g.prods[k] ∈ g.prods := List.getElem_mem h1
          obtain ⟨lf0, lf1⟩ := HS.out.left _ hmem
          have hsh := HS.out.short _ hmem
          have hkn := HS.out.known _ hmem
          obtain ⟨hlen, hok⟩ := runs_ok hA.runs
          have hln : L.length = n := by rw [hlen, ← HNN.out]
          have X0 := (hA.below.cell (p := ⟨bb, k * 2, none⟩) hr).trans x0
          have X1 := (hA.below.cell (p := ⟨bb, k * 2 + 1, none⟩) hr).trans x1
          obtain ⟨q, hq⟩ : ∃ q : Nat, g.prods[k].left = (q : Int) := ⟨g.prods[k].left.toNat, by omega⟩
          have hqn : q < n := by rw [hq, ← HNN.out] at lf1; omega
          rw [hq] at X0
          obtain ⟨Ax, cx, ex⟩ := xi.form
          have hxi := xi
          rw [ex] at X1 hxi
          have hfix : ∀ c d, shRow L g.prods[k].right = c → L.getD q (-1) = d → (c = -1 ∨ (d ≠ -1 ∧ d ≤ c)) → FixAt L g.prods[k] := fun c d e1 e2 e3 => by
            unfold FixAt
            rw [hq, Int.toNat_natCast, e1, e2]
            exact e3
          have hstep : ∀ c d, shRow L g.prods[k].right = c → L.getD q (-1) = d → c ≠ -1 → (d = -1 ∨ c < d) → Runs g (L.set q c) ∧ wtL (L.set q c) < wtL L := fun c d e1 e2 e3 e4 => by
            have hb := shRow_ok hok g.prods[k].right
            subst e1
            subst e2
            exact ⟨Runs.step L _ q hA.runs hmem hq (by rw [← HNN.out]; exact hqn) e3 e4, wt_set L q _ (by omega) e3 (by omega) hb.2 e4⟩
          have KC := fun w (hw : IntsAt P w g.prods[k].right (.slice Ax g.prods[k].right.length cx)) (hw2 : RowAt w b L) => shortRow_any L g.prods[k].right hok (fun s hs => by have := (hkn s hs).2; rw [hlen]; exact this) (by omega) P (fun q => q = b) w _ _ hw hw2.ints
          rw [hln] at KC
          obtain ⟨c, hc⟩ : ∃ c, c = shRow L g.prods[k].right := ⟨_, rfl⟩
          have hd := hA.row.cell q (by rw [hln]; exact hqn)
          have hdg : L.getD q (-1) = L[q]'(by rw [hln]; exact hqn) := by rw [List.getD_eq_getElem?_getD, List.getElem?_eq_getElem (by rw [hln]; exact hqn)]; rfl
          obtain ⟨d, hd0⟩ : ∃ d, d = L.getD q (-1) := ⟨_, rfl⟩
          rw [← hdg, ← hd0] at hd
          have hfix := hfix c d hc.symm hd0.symm
          have hstep := hstep c d hc.symm hd0.symm
          rw [← hc] at KC
          have HKC := Lib.hid KC
          have HXI := Lib.hid hxi
          have HFX := Lib.hid hfix
          have HST := Lib.hid hstep
          have HPS := Lib.hid hpass
          obtain ⟨m, hm⟩ : ∃ m, m = g.prods[k].right.length := ⟨_, rfl⟩
          rw [← hm] at X1 HXI HKC
          have hA2 := Lib.hid (hA.alloc (.cells #[.int .i64 q, .slice Ax m cx] 47))
          have hx := heap_alloc_new wr (.cells #[.int .i64 q, .slice Ax m cx] 47)
          have HXV := Lib.hid (HXI.out.under (W' := wr.alloc (.cells #[.int .i64 q, .slice Ax m cx] 47)) ((hA.below.alloc hA.below.size _)))
          have HD := Lib.hid (((Below.refl wr.heap.size wr).alloc (Nat.le_refl _) (.cells #[.int .i64 q, .slice Ax m cx] 47)).cell (p := ⟨b, q, none⟩) (Gn.heap_lt hA.row) |>.trans hd)
          have hqi : (0 : Int) ≤ (q : Int) := by omega
          have hqi2 : (q : Int) < (n : Int) := by omega
          clear e3 e4 xi ex x0 x1 hq hmem hsh hkn hln hlen hok hd hdg hd0 hfix hstep hpass hxi KC hc hm lf0 lf1 hA
          go_wp2_with fail
          generalize hV : World.alloc wr _ = V
          rw [hV] at hA2 hx HXV HD
          clear hV
          refine (HKC.out _ HXV.out hA2.out.row).mono ?_
          rintro e w3 ⟨rfl, rfl⟩
          have y0 : V.cell? ⟨wr.heap.size, 0, none⟩ = some (.int .i64 q) := cell_of_row _ _ 0 _ _ (0, 0) hx
          have d0 := HD.out
          have hrf := hA2.out.row.frozen
          have HBL := Lib.hid (Gn.heap_lt hA2.out.row)
          clear hx
          have hcs : c = -1 ∨ (c ≠ -1 ∧ (d = -1 ∨ c < d)) ∨ (c ≠ -1 ∧ d ≠ -1 ∧ d ≤ c) := by omega
          rcases hcs with hc1 | ⟨hc1, hc2⟩ | ⟨hc1, hc2, hc3⟩
          · have HN2 := Lib.hid (show PassAt g L0 L (k + 1) t from pass_same HPS.out fun e => HFX.out (.inl hc1))
            have e1 : ((c : Int) != -1) = false := by rw [hc1]; rfl
            clear hc1
            go_wp2
            go_roundw
            case rel => exact ⟨L, t, k + 1, rfl, by omega, by simp, hA2.out, HN2.out⟩
            case measure => simp [intOf]; omega
          · obtain ⟨hr1, hw1⟩ := HST.out hc1 hc2
            have HN2 := Lib.hid (show PassAt g L0 (L.set q c) (k + 1) true from pass_less HPS.out hw1)
            have HL2 := Lib.hid (hA2.out.set hbl q c hr1)
            have e1 : ((c : Int) != -1) = true := by rw [bne_iff_ne]; exact hc1
            clear hr1 hw1
            by_cases hdm : d = -1
            · have e2 : ((d : Int) == -1) = true := by rw [hdm]; rfl
              clear hdm hc1 hc2
              go_wp2
              go_roundw
              case rel => exact ⟨L.set q c, true, k + 1, rfl, by omega, by simp, HL2.out, HN2.out⟩
              case measure => simp [intOf]; omega
            · have e2 : ((d : Int) == -1) = false := by rw [beq_eq_false_iff_ne]; exact hdm
              have e3 : c < d := by omega
              clear hdm hc1 hc2
              go_wp2
              go_roundw
              case rel => exact ⟨L.set q c, true, k + 1, rfl, by omega, by simp, HL2.out, HN2.out⟩
              case measure => simp [intOf]; omega
          · have HN2 := Lib.hid (show PassAt g L0 L (k + 1) t from pass_same HPS.out fun e => HFX.out (.inr ⟨hc2, hc3⟩))
            have e1 : ((c : Int) != -1) = true := by rw [bne_iff_ne]; exact hc1
            have e2 : ((d : Int) == -1) = false := by rw [beq_eq_false_iff_ne]; exact hc2
            have e3 : ¬ c < d := by omega
            clear hc1 hc2 hc3
            go_wp2
            go_roundw
            case rel => exact ⟨L, t, k + 1, rfl, by omega, by simp, hA2.out, HN2.out⟩
            case measure => simp [intOf]; omega
        · have hkn : k = np := by omega
          have HA := Lib.hid hA
          have HFN := Lib.hid (show t = false → Fix g L from fun ht => by
            obtain ⟨hL, hf⟩ := hpass.1 ht
            rw [hL]
            intro p hp
            obtain ⟨j, hj, rfl⟩ := List.mem_iff_getElem.1 hp
            exact hf j hj (by rw [hkn, HNP.out]; exact hj))
          have HMW := Lib.hid (wtW_is hA.row)
          have HLT := Lib.hid (show wtL L + flg (.bool t) < wtL L0 + flg (.bool true) by
            cases t
            · rw [(hpass.1 rfl).1]; show wtL L0 + 0 < wtL L0 + 1; omega
            · have := hpass.2 rfl; omega)
          clear hA hpass hkn
          go_wp2
          go_roundw
          case rel => exact ⟨L, t, rfl, HA.out, HFN.out⟩
          case measure =>
            rw [HMW.out, HMS.out]
            exact HLT.out
end Go.Proofs.Ytlkijnglpllcdaa.Fx
