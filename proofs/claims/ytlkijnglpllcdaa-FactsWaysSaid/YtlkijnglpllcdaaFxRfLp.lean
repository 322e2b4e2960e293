/-
  The walk of the document's Loops.
-/
import Derived.Test.YtlkijnglpllcdaaFxRfStep
namespace Go.Proofs.Ytlkijnglpllcdaa.Fx
open Go.RowKit
set_option maxRecDepth 100000
set_option linter.unusedSimpArgs false
set_option linter.unusedVariables false

/-- Within the loops: the grammar's box, who has the empty word, what was told. -/
structure LpAt (W0 : World) (n bu bo : Nat) (cs : Array Value) (N : List Bool) (D : Nat → Bool) (W : World) : Prop where
  box : W.heap[W0.heap.size]? = some (.cells cs 33 (0, 0))
  nul : ∀ i, i < n → W.cell? ⟨bu, i, none⟩ = some (.bool (N.getD i false))
  out : W.rowIs bo 4 n (fun i => .bool (D i))
  lts : W0.heap.size < bu ∧ bu < bo ∧ bo < W.heap.size
  below : Below W0.heap.size W0 W
theorem LpAt.mv {W0 W W' : World} {n bu bo B : Nat} {cs : Array Value} {N : List Bool} {D : Nat → Bool} (h : LpAt W0 n bu bo cs N D W) (hB : bo < B) (b : Below B W W') : LpAt W0 n bu bo cs N D W' := by
  obtain ⟨l1, l2, l3⟩ := h.lts
  exact ⟨(b.block _ (by omega)).trans h.box, fun i hi => (b.cell (p := ⟨bu, i, none⟩) (show bu < B by omega)).trans (h.nul i hi), h.out.of_block (b.block _ hB), ⟨l1, l2, Nat.lt_of_lt_of_le l3 b.size⟩, h.below.trans (b.mono (by omega))⟩
theorem LpAt.bools {W0 W : World} {n bu bo : Nat} {cs : Array Value} {N : List Bool} {D : Nat → Bool} (h : LpAt W0 n bu bo cs N D W) (hN : N.length = n) : BoolsAt (fun _ => True) W N (.slice (some ⟨bu, 0, none⟩) n n) := by
  refine ⟨_, n, bu, by rw [hN], by omega, fun _ => ⟨rfl, by have := h.lts; omega, trivial⟩, fun i hi => ?_⟩
  rw [h.nul i (by omega), List.getD_eq_getElem?_getD, List.getElem?_eq_getElem hi]; rfl
theorem LpAt.put {W0 W : World} {n bu bo : Nat} {cs : Array Value} {N : List Bool} {D : Nat → Bool} (h : LpAt W0 n bu bo cs N D W) (a : Nat) (x : Bool) : LpAt W0 n bu bo cs N (fun i => if i = a then x else D i) (W.setCell ⟨bo, a, none⟩ (.bool x)) := by
  obtain ⟨l1, l2, l3⟩ := h.lts
  exact ⟨(Gn.set_keep W a _ (by omega)).trans h.box, fun i hi => (Gn.cell_same (Gn.set_keep W a _ (by omega)) i).trans (h.nul i hi), (h.out.set a (.bool x)).congr (fun i _ => by split <;> rfl), ⟨l1, l2, by simpa [World.setCell] using l3⟩, h.below.setCell (show W0.heap.size ≤ bo by omega) _⟩

set_option maxHeartbeats 16000000 in
theorem lpref_any (g : PG) (hS : Snd g) (P : Nat → Prop) (W : World) (v : Value) (h : PgAt P W g v) :
    Calls Try.prog 21 #[v] W fun e w' => ∃ (bo : Nat) (D : Nat → Bool) (N : List Bool), e = .returned (.slice (some ⟨bo, 0, none⟩) g.names.length g.names.length) ∧ w'.rowIs bo 4 g.names.length (fun i => .bool (D i)) ∧ (∀ L, Least g L → L.map (fun x : Int => x == 0) = N) ∧ (∀ a, a < g.names.length → (D a = true ↔ Come (goS (loneL N) g.prods) (goS (loneL N) g.prods a) (a : Int))) ∧ Below W.heap.size W w' := by
  have h' := h
  obtain ⟨An, At_, Ap, cn, ct, cp, rfl, _, _, hP⟩ := h'.open_
  have hbb : Below W.heap.size W (W.alloc (.cells #[.int .i64 g.start, .int .i64 g.rules, .slice An g.names.length cn, .slice At_ g.terms.length ct, .slice Ap g.prods.length cp] 33)) := (Below.refl _ _).alloc (Nat.le_refl _) _
  have hbx := heap_alloc_new W (.cells #[.int .i64 g.start, .int .i64 g.rules, .slice An g.names.length cn, .slice At_ g.terms.length ct, .slice Ap g.prods.length cp] 33)
  have HKN := Lib.hid (fun w (b : Below W.heap.size W w) => nulref_any g hS P w _ (h.under b))
  have HKS := Lib.hid (fun w (b : Below W.heap.size W w) (N : List Bool) (hN : N.length = g.names.length) (u : Value) (hu : BoolsAt (fun _ => True) w N u) (a : Nat) (c : Int) => stepref_any g hS N hN P _ w _ u (h.under b) hu a c)
  have hSn : ∀ N : List Bool, ∀ i : Nat, ∀ y ∈ goS (loneL N) g.prods i, y < (g.names.length : Int) := fun N i y hy => by
    obtain ⟨p, hp, hy⟩ := goS_mem hy
    exact (hS.known p hp y (loneL_mem hy)).2
  obtain ⟨n, hn⟩ : ∃ n, n = g.names.length := ⟨_, rfl⟩
  obtain ⟨np, hnp⟩ : ∃ np, np = g.prods.length := ⟨_, rfl⟩
  have hn1 : 1 ≤ n := by have := hS.start; omega
  have hn2 : n ≤ 256 := by have := hS.few.1; omega
  rw [← hn, ← hnp] at hbx hbb HKN HKS
  rw [← hn] at hSn
  rw [← hn, ← hnp]
  obtain ⟨lt, hlt⟩ : ∃ lt, lt = g.terms.length := ⟨_, rfl⟩
  rw [← hlt] at hbx hbb HKN HKS ⊢
  obtain ⟨st, hst⟩ : ∃ st, st = g.start := ⟨_, rfl⟩
  rw [← hst] at hbx hbb HKN HKS ⊢
  obtain ⟨ru, hru⟩ : ∃ ru, ru = g.rules := ⟨_, rfl⟩
  rw [← hru] at hbx hbb HKN HKS ⊢
  have HNN := Lib.hid hn
  have HSN := Lib.hid hSn
  have hx0 := cell_of_row _ _ 0 _ _ (0, 0) hbx
  have hx1 := cell_of_row _ _ 1 _ _ (0, 0) hbx
  have hx2 := cell_of_row _ _ 2 _ _ (0, 0) hbx
  have hx3 := cell_of_row _ _ 3 _ _ (0, 0) hbx
  have hx4 := cell_of_row _ _ 4 _ _ (0, 0) hbx
  have HBX := Lib.hid hbx
  have HBB := Lib.hid hbb
  have hmk := run_make_row' (P := Try.prog) 38 4 (.bool false) 1 rfl binfo rfl .i64 .i64 n (by omega) (by omega)
  clear h h' hP hbb hbx hS hn hnp hlt hst hru hSn
  go_enter Try.func21, Try.ntmps21
  go_wp2_with fail
  refine (HKN.out _ HBB.out).mono ?_
  rintro e w1 ⟨bu, O1, rfl, hbu, hrow1, hO1, b1⟩
  have HB1 := Lib.hid (HBB.out.trans (b1.mono HBB.out.size))
  have hxb1 := (b1.block _ (Gn.heap_lt HBX.out)).trans HBX.out
  have hx2 := cell_of_row _ _ 2 _ _ (0, 0) hxb1
  obtain ⟨N, hN⟩ : ∃ N, N = (List.range n).map O1 := ⟨_, rfl⟩
  have hNl : N.length = n := by rw [hN]; simp
  have hNg : ∀ i, i < n → N.getD i false = O1 i := fun i hi => by rw [hN, List.getD_eq_getElem?_getD, List.getElem?_eq_getElem (by simpa using hi)]; simp
  have HNL := Lib.hid (show ∀ L, Least g L → L.map (fun x : Int => x == 0) = N from fun L hL => by
    have hl := (runs_ok hL.runs).1
    rw [hN, HNN.out]
    refine List.ext_getElem (by simp [hl]) fun i h1 h2 => ?_
    have h3 : i < L.length := by simpa using h1
    simp only [List.getElem_map, List.getElem_range]
    rw [hO1 L hL i, List.getD_eq_getElem?_getD, List.getElem?_eq_getElem h3]
    rfl)
  have HNE := Lib.hid hNl
  have hbl1 := hrow1.lt
  have hbs1 : W.heap.size < bu := by have := Gn.heap_lt HBX.out; omega
  have hL1 : LpAt W n bu w1.heap.size #[.int .i64 st, .int .i64 ru, .slice An n cn, .slice At_ lt ct, .slice Ap np cp] N (fun _ => false) (w1.alloc (.cells (madeCells #[.bool false] n) 4)) := ⟨(heap_alloc_old w1 _ (Gn.heap_lt hxb1)).trans hxb1, fun i hi => (Gn.cell_same (heap_alloc_old w1 _ hbl1) i).trans (by rw [hNg i hi]; exact hrow1.cell hi), World.rowIs_made w1 (.bool false) n 4, ⟨hbs1, hbl1, by simp⟩, HB1.out.alloc HB1.out.size _⟩
  have HL1 := Lib.hid hL1
  clear hN hNg hNl hO1 hrow1 b1 hxb1 hx0 hx1 hx3 hx4 hbl1 hbs1 hbu hL1 HBB HBX HKN
  go_wp2_with fail
  generalize hV : World.alloc w1 _ = V
  rw [hV] at HL1
  obtain ⟨bo, hbo⟩ : ∃ bo, bo = w1.heap.size := ⟨_, rfl⟩
  rw [← hbo] at HL1 ⊢
  clear hV hbo hx2 HB1
  obtain ⟨S, hSe⟩ : ∃ S, S = goS (loneL N) g.prods := ⟨_, rfl⟩
  have HKT := Lib.hid (fun w (b : Below W.heap.size W w) (hu : BoolsAt (fun _ => True) w N (.slice (some ⟨bu, 0, none⟩) n n)) (a : Nat) (c : Int) => (show Calls Try.prog 36 #[.agg #[.int .i64 st, .int .i64 ru, .slice An n cn, .slice At_ lt ct, .slice Ap np cp], .slice (some ⟨bu, 0, none⟩) n n, .int .i64 a, .int .i64 c] w fun e w' => e = .returned (.bool (decide (c ∈ S a))) ∧ Below w.heap.size w w' by rw [hSe]; exact HKS.out w b N HNE.out _ hu a c))
  have HSS := Lib.hid (show ∀ i : Nat, i < n → ∀ y ∈ S i, y < (n : Int) from fun i _ y hy => by rw [hSe] at hy; exact HSN.out N i y hy)
  have HSE := Lib.hid hSe
  clear hSe HKS HSN
  go_loopw [6] (fun i wr => ∃ (k : Nat) (D : Nat → Bool), k ≤ n ∧ i = .int .i64 k ∧ LpAt W n bu bo #[.int .i64 st, .int .i64 ru, .slice An n cn, .slice At_ lt ct, .slice Ap np cp] N D wr ∧ (∀ a, a < k → (D a = true ↔ Come S (S a) (a : Int)))) (fun i _ => n - (intOf i).toNat)
  case atStart => exact ⟨0, _, Nat.zero_le _, rfl, HL1.out, fun a ha => absurd ha (by omega)⟩
  case round =>
    obtain ⟨k, D, hk, rfl, hA, hD⟩ := hrel
    have HA := Lib.hid hA
    have HD := Lib.hid hD
    clear hA hD
    by_cases hlt : k < n
    · have hlt2 : (k : Int) < (n : Int) := by omega
      obtain ⟨wo, rfl⟩ : ∃ wo : World, wo = wr := ⟨_, rfl⟩
      go_wp2_with fail
      obtain ⟨bc, hbc⟩ : ∃ bc, bc = wo.heap.size := ⟨_, rfl⟩
      have HBC := Lib.hid (show bo < bc ∧ W.heap.size ≤ bc by have := HA.out.lts; omega)
      have HR0 := Lib.hid (World.rowIs_made wo (.bool false) n 4)
      have HC0 := Lib.hid (show Below bc wo (wo.alloc (.cells (madeCells #[.bool false] n) 4)) from (Below.refl _ _).alloc (by omega) _)
      generalize hV : World.alloc wo _ = V2
      rw [hV] at HR0 HC0
      rw [← hbc] at HR0 ⊢
      clear hV hbc
      go_loopw [8] (fun i wr => ∃ (j : Nat) (O : Nat → Bool), j ≤ n ∧ i = .int .i64 j ∧ wr.rowIs bc 4 n (fun i => .bool (O i)) ∧ Below bc wo wr ∧ (∀ c, O c = true ↔ c < j ∧ (c : Int) ∈ S k)) (fun i _ => n - (intOf i).toNat)
      case atStart => exact ⟨0, fun _ => false, Nat.zero_le _, rfl, HR0.out, HC0.out, fun c => ⟨fun h => (by cases h), fun h => absurd h.1 (by omega)⟩⟩
      case round =>
        obtain ⟨j, O, hj, rfl, hrow, hb, hO⟩ := hrel
        have hA2 := HA.out.mv HBC.out.1 hb
        have HROW := Lib.hid hrow
        have HB := Lib.hid hb
        have HO := Lib.hid hO
        have HA2 := Lib.hid hA2
        by_cases hjn : j < n
        · have hjn2 : (j : Int) < (n : Int) := by omega
          have z0 := cell_of_row _ _ 0 _ _ (0, 0) hA2.box
          have z1 := cell_of_row _ _ 1 _ _ (0, 0) hA2.box
          have z2 := cell_of_row _ _ 2 _ _ (0, 0) hA2.box
          have z3 := cell_of_row _ _ 3 _ _ (0, 0) hA2.box
          have z4 := cell_of_row _ _ 4 _ _ (0, 0) hA2.box
          clear hrow hb hO hA2
          go_wp2_with fail
          refine (HKT.out _ HA2.out.below (HA2.out.bools HNE.out) k j).mono ?_
          rintro e w3 ⟨rfl, b3⟩
          have hrow3 := HROW.out.of_block (b3.block _ HROW.out.lt)
          have y := hrow3.cell hjn
          have yf := hrow3.frozen j
          obtain ⟨x, hx⟩ : ∃ x, x = decide ((j : Int) ∈ S k) := ⟨_, rfl⟩
          rw [← hx]
          have HR3 := Lib.hid ((hrow3.set j (.bool x)).congr (g := fun i => .bool (if i = j then x else O i)) fun i _ => by split <;> rfl)
          have HB3 := Lib.hid ((HB.out.trans (b3.mono (Nat.le_of_lt HROW.out.lt))).setCell (p := ⟨bc, j, none⟩) (Nat.le_refl _) (.bool x))
          have HO3 := Lib.hid (show ∀ c, (if c = j then x else O c) = true ↔ c < j + 1 ∧ (c : Int) ∈ S k from fun c => by
            by_cases e : c = j
            · subst e
              rw [if_pos rfl, hx, decide_eq_true_iff]
              exact ⟨fun h => ⟨by omega, h⟩, fun h => h.2⟩
            · rw [if_neg e, HO.out c]
              exact ⟨fun h => ⟨by omega, h.2⟩, fun h => ⟨by omega, h.2⟩⟩)
          clear hrow3 b3 hx z0 z1 z2 z3 z4
          go_wp2_with fail
          go_roundw
          case rel => exact ⟨j + 1, _, by omega, by simp, HR3.out, HB3.out, HO3.out⟩
          case measure => simp [intOf]; omega
        · have hje : n = j := by omega
          subst hje
          have hjn2 : ¬ ((n : Nat) : Int) < ((n : Nat) : Int) := by omega
          clear hrow hb hA2
          have hok0 : LpOk S k O := fun i hi => .base _ ((hO i).1 hi).2
          have hst0 : ∀ c : Nat, c < n → (c : Int) ∈ S k → O c = true := fun c hc hm => (hO c).2 ⟨hc, hm⟩
          have HOK := Lib.hid hok0
          have HST := Lib.hid hst0
          clear hO hok0 hst0
          go_wp2_with fail
          go_loopw [9] (fun v wr => ∃ (O : Nat → Bool) (t : Bool), v = .bool t ∧ wr.rowIs bc 4 n (fun i => .bool (O i)) ∧ Below bc wo wr ∧ LpOk S k O ∧ (∀ c : Nat, c < n → (c : Int) ∈ S k → O c = true) ∧ (t = false → ∀ b, b < n → LpFx S n O b)) (fun v wr => ffW wr bc + flg v)
          case atStart => exact ⟨O, true, rfl, HROW.out, HB.out, HOK.out, HST.out, fun h => by cases h⟩
          case round =>
            obtain ⟨O0, t, rfl, hrow, hb, hok, hst, hfx⟩ := hrel
            cases t
            · have hA3 := HA.out.mv HBC.out.1 hb
              have y := hrow.cell hlt
              have yo := hA3.out.cell hlt
              have yf := hA3.out.frozen k
              obtain ⟨x, hx⟩ : ∃ x, x = O0 k := ⟨_, rfl⟩
              rw [← hx] at y
              have HA4 := Lib.hid (hA3.put k x)
              have HD4 := Lib.hid (show ∀ a, a < k + 1 → ((if a = k then x else D a) = true ↔ Come S (S a) (a : Int)) from fun a ha => by
                by_cases e : a = k
                · subst e
                  rw [if_pos rfl, hx]
                  exact lp_is HSS.out hok hlt hst (hfx rfl) a
                · rw [if_neg e]
                  exact HD.out a (by omega))
              clear hx hrow hb hok hst hfx hA3 HROW HB HO HOK HST
              go_wp2_with fail
              go_roundw
              case rel => exact ⟨k + 1, _, by omega, by simp, HA4.out, HD4.out⟩
              case measure => simp [intOf]; omega
            · have HMS := Lib.hid (ffW_is hrow)
              have HROW2 := Lib.hid hrow
              have HB2 := Lib.hid hb
              have HOK2 := Lib.hid hok
              have HST2 := Lib.hid hst
              clear hrow hb hok hst hfx HROW HB HO HOK HST
              obtain ⟨wo2, rfl⟩ : ∃ wo2 : World, wo2 = wr := ⟨_, rfl⟩
              go_wp2_with fail
              go_loopw [9, 10] (fun v i wq => ∃ (O : Nat → Bool) (t : Bool) (b : Nat), v = .bool t ∧ b ≤ n ∧ i = .int .i64 b ∧ wq.rowIs bc 4 n (fun i => .bool (O i)) ∧ Below bc wo wq ∧ LpOk S k O ∧ (∀ c : Nat, c < n → (c : Int) ∈ S k → O c = true) ∧ PassL S n O0 O b t) (fun _ i _ => n - (intOf i).toNat)
              case atStart => exact ⟨O0, false, 0, rfl, Nat.zero_le _, rfl, HROW2.out, HB2.out, HOK2.out, HST2.out, fun _ => ⟨rfl, fun j hj => absurd hj (by omega)⟩, fun h => by cases h⟩
              case round =>
                obtain ⟨O, t, b, rfl, hb0, rfl, hrow, hb, hok, hst, hps⟩ := hrel
                have HROW := Lib.hid hrow
                have HB := Lib.hid hb
                have HOK := Lib.hid hok
                have HST := Lib.hid hst
                have HPS := Lib.hid hps
                clear hrow hb hok hst hps
                by_cases hbn : b < n
                · have hbn2 : (b : Int) < (n : Int) := by omega
                  go_wp2_with fail
                  go_loopw [9, 11] (fun v i wq => ∃ (O : Nat → Bool) (t : Bool) (c : Nat), v = .bool t ∧ c ≤ n ∧ i = .int .i64 c ∧ wq.rowIs bc 4 n (fun i => .bool (O i)) ∧ Below bc wo wq ∧ LpOk S k O ∧ (∀ c : Nat, c < n → (c : Int) ∈ S k → O c = true) ∧ PassL S n O0 O b t ∧ (t = false → O b = true → ∀ c' : Nat, c' < c → (c' : Int) ∈ S b → O c' = true)) (fun _ i _ => n - (intOf i).toNat)
                  case atStart => exact ⟨O, t, 0, rfl, Nat.zero_le _, rfl, HROW.out, HB.out, HOK.out, HST.out, HPS.out, fun _ _ c' h => absurd h (by omega)⟩
                  case round =>
                    obtain ⟨O, t, c, rfl, hc0, rfl, hrow, hb, hok, hst, hps, hin⟩ := hrel
                    have yb := hrow.cell hbn
                    have HROW := Lib.hid hrow
                    have HB := Lib.hid hb
                    have HOK := Lib.hid hok
                    have HST := Lib.hid hst
                    have HPS := Lib.hid hps
                    have HIN := Lib.hid hin
                    clear hrow hb hok hst hps hin
                    cases hob : O b
                    · rw [hob] at yb
                      have HP2 := Lib.hid (HPS.out.same (fun _ => show LpFx S n O b from fun h => by rw [hob] at h; cases h))
                      clear hob
                      go_wp2_with fail
                      go_roundw
                      case rel => exact ⟨O, t, b + 1, rfl, by omega, by simp, HROW.out, HB.out, HOK.out, HST.out, HP2.out⟩
                      case measure => simp [intOf]; omega
                    · rw [hob] at yb
                      by_cases hcn : c < n
                      · have hcn2 : (c : Int) < (n : Int) := by omega
                        have yc := HROW.out.cell hcn
                        cases hoc : O c
                        · rw [hoc] at yc
                          have hA2 := HA.out.mv HBC.out.1 HB.out
                          have z0 := cell_of_row _ _ 0 _ _ (0, 0) hA2.box
                          have z1 := cell_of_row _ _ 1 _ _ (0, 0) hA2.box
                          have z2 := cell_of_row _ _ 2 _ _ (0, 0) hA2.box
                          have z3 := cell_of_row _ _ 3 _ _ (0, 0) hA2.box
                          have z4 := cell_of_row _ _ 4 _ _ (0, 0) hA2.box
                          have HA2 := Lib.hid hA2
                          have HOC := Lib.hid hoc
                          have HOB := Lib.hid hob
                          clear hA2 hoc hob
                          go_wp2_with fail
                          refine (HKT.out _ HA2.out.below (HA2.out.bools HNE.out) b c).mono ?_
                          rintro e w3 ⟨rfl, b3⟩
                          have hrow3 := HROW.out.of_block (b3.block _ HROW.out.lt)
                          have hb3 := HB.out.trans (b3.mono (Nat.le_of_lt HROW.out.lt))
                          by_cases hx : (c : Int) ∈ S b
                          · have e1 : decide ((c : Int) ∈ S b) = true := decide_eq_true hx
                            rw [e1]
                            have y := hrow3.cell hcn
                            have yf := hrow3.frozen c
                            have HR3 := Lib.hid ((hrow3.set c (.bool true)).congr (g := fun i => .bool (updN O c i)) fun i _ => by unfold updN; split <;> rfl)
                            have HB3 := Lib.hid (hb3.setCell (p := ⟨bc, c, none⟩) (Nat.le_refl _) (.bool true))
                            have HOK3 := Lib.hid (lp_step HOK.out HOB.out hx)
                            have HST3 := Lib.hid (show ∀ i : Nat, i < n → (i : Int) ∈ S k → updN O c i = true from fun i hi hm => updN_mono O c i (HST.out i hi hm))
                            have HP3 := Lib.hid (HPS.out.less (k' := b) (cntN_upd HOC.out n hcn))
                            clear e1 hx hrow3 hb3 b3 z0 z1 z2 z3 z4
                            go_wp2_with fail
                            go_roundw
                            case rel => exact ⟨_, true, c + 1, rfl, by omega, by simp, HR3.out, HB3.out, HOK3.out, HST3.out, HP3.out, fun h => by cases h⟩
                            case measure => simp [intOf]; omega
                          · have e1 : decide ((c : Int) ∈ S b) = false := decide_eq_false hx
                            rw [e1]
                            have HR3 := Lib.hid hrow3
                            have HB3 := Lib.hid hb3
                            have HI3 := Lib.hid (show t = false → O b = true → ∀ c' : Nat, c' < c + 1 → (c' : Int) ∈ S b → O c' = true from fun h1 h2 c' h3 h4 => by
                              by_cases e : c' = c
                              · subst e; exact absurd h4 hx
                              · exact HIN.out h1 h2 c' (by omega) h4)
                            clear e1 hx hrow3 hb3 b3 z0 z1 z2 z3 z4
                            go_wp2_with fail
                            go_roundw
                            case rel => exact ⟨O, t, c + 1, rfl, by omega, by simp, HR3.out, HB3.out, HOK.out, HST.out, HPS.out, HI3.out⟩
                            case measure => simp [intOf]; omega
                        · rw [hoc] at yc
                          have HI3 := Lib.hid (show t = false → O b = true → ∀ c' : Nat, c' < c + 1 → (c' : Int) ∈ S b → O c' = true from fun h1 h2 c' h3 h4 => by
                            by_cases e : c' = c
                            · subst e; exact hoc
                            · exact HIN.out h1 h2 c' (by omega) h4)
                          clear hoc hob
                          go_wp2_with fail
                          go_roundw
                          case rel => exact ⟨O, t, c + 1, rfl, by omega, by simp, HROW.out, HB.out, HOK.out, HST.out, HPS.out, HI3.out⟩
                          case measure => simp [intOf]; omega
                      · have hce : n = c := by omega
                        subst hce
                        have hcn2 : ¬ ((n : Nat) : Int) < ((n : Nat) : Int) := by omega
                        have HP2 := Lib.hid (HPS.out.same (fun ht => show LpFx S n O b from fun h c' h3 h4 => HIN.out ht h c' h3 h4))
                        clear hob
                        go_wp2_with fail
                        go_roundw
                        case rel => exact ⟨O, t, b + 1, rfl, by omega, by simp, HROW.out, HB.out, HOK.out, HST.out, HP2.out⟩
                        case measure => simp [intOf]; omega
                · have hbe : n = b := by omega
                  subst hbe
                  have hbn2 : ¬ ((n : Nat) : Int) < ((n : Nat) : Int) := by omega
                  have HM2 := Lib.hid (ffW_is HROW.out)
                  go_wp2_with fail
                  go_roundw
                  case rel => exact ⟨O, t, rfl, HROW.out, HB.out, HOK.out, HST.out, fun ht i hi => by
                    obtain ⟨e, h2⟩ := HPS.out.1 ht
                    rw [e]
                    exact h2 i hi⟩
                  case measure =>
                    rw [HMS.out, HM2.out]
                    cases t
                    · have := (HPS.out.1 rfl).1
                      rw [this]; simp [flg]
                    · have := HPS.out.2 rfl
                      simp [flg]; omega
    · have hke : n = k := by omega
      subst hke
      have hlt2 : ¬ ((n : Nat) : Int) < ((n : Nat) : Int) := by omega
      go_wp2_with fail
      go_ret
      exact ⟨bo, rfl, D, HA.out.out, N, HNL.out, fun a ha => by rw [← HSE.out]; exact HD.out a ha, HA.out.below⟩
end Go.Proofs.Ytlkijnglpllcdaa.Fx
