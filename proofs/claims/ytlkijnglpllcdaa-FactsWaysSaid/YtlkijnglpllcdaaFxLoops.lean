/-
  The walk of Loops.
-/
import Derived.Test.YtlkijnglpllcdaaFxReach
namespace Go.Proofs.Ytlkijnglpllcdaa.Fx
open Go.RowKit
set_option maxRecDepth 100000
set_option linter.unusedSimpArgs false

theorem loneL_len (N : List Bool) (r : List Int) : (loneL N r).length ≤ r.length := by
  have h := List.length_filter_le (fullB N) r
  unfold loneL
  split
  · exact Nat.le_refl _
  · rename_i e; rw [e] at h; exact h
  · exact Nat.zero_le _
theorem loneL_mem {N : List Bool} {r : List Int} {y : Int} (h : y ∈ loneL N r) : y ∈ r := by
  unfold loneL at h
  split at h
  · exact h
  · rename_i s e
    rw [List.mem_singleton] at h
    subst h
    exact (List.mem_filter.1 (e ▸ List.mem_singleton.2 rfl : y ∈ r.filter (fullB N))).1
  · cases h
/-- Who comes to itself. -/
def loopsT (g : PG) (L : List Int) (a : Nat) : Prop := Come (goS (loneL (L.map fun x : Int => x == 0)) g.prods) (goS (loneL (L.map fun x : Int => x == 0)) g.prods a) (a : Int)

set_option maxHeartbeats 8000000 in
theorem loops_any (g : PG) (hs : g.Fits) (hsd : soundB g = true) (P : Nat → Prop) (W : World) (v : Value) (h : PgAt P W g v) :
    Calls Try.prog 20 #[v] W fun e w' => ∃ L, Least g L ∧ TellsB g.names.length (loopsT g L) W e w' := by
  have hS := snd_of hsd
  have KN0 : ∀ w, Below W.heap.size W w → Calls Try.prog 14 #[v] w fun e w' => ∃ (u : Value) (L : List Int), e = .returned u ∧ Least g L ∧ w'.ownsRow w.heap.size 4 1 u L.length ((L.map (fun x : Int => x == 0)).map Value.bool) ∧ Below w.heap.size w w' := fun w hw => nullable_any g hs hsd P w v (h.under hw)
  obtain ⟨An, At_, Ap, cn, ct, cp, rfl, hN, hT, hP⟩ := h.open_
  have hbb : Below W.heap.size W (W.alloc (.cells #[.int .i64 g.start, .int .i64 g.rules, .slice An g.names.length cn, .slice At_ g.terms.length ct, .slice Ap g.prods.length cp] 30)) := (Below.refl _ _).alloc (Nat.le_refl _) _
  have hbx := heap_alloc_new W (.cells #[.int .i64 g.start, .int .i64 g.rules, .slice An g.names.length cn, .slice At_ g.terms.length ct, .slice Ap g.prods.length cp] 30)
  have KS := sound_any g hs P _ _ (h.under hbb)
  rw [hsd] at KS
  have hlen : ∀ (L : List Int) (a : Nat), (goS (loneL (L.map fun x : Int => x == 0)) g.prods a).length ≤ 256 * 16 := fun L a => by
    have h1 := goS_len (loneL (L.map fun x : Int => x == 0)) 16 (loneL_len _) g.prods hS.short a
    have h2 := Nat.mul_le_mul_right 16 hS.few.2.2
    omega
  have hmem : ∀ (L : List Int) (a : Nat), ∀ y ∈ goS (loneL (L.map fun x : Int => x == 0)) g.prods a, -1048577 ≤ y ∧ y < (g.names.length : Int) := fun L a y hy => by
    obtain ⟨p, hp, hy2⟩ := goS_mem hy
    have h1 := hS.known p hp y (loneL_mem hy2)
    have h2 := hS.few.2.1
    omega
  have KT : ∀ (L : List Int) (B : Nat) (u : Value) (Q : Nat → Prop) w, Least g L → Below W.heap.size W w → BoolsAt Q w (L.map fun x : Int => x == 0) u → w.cell? ⟨B, 0, none⟩ = some u → B < w.heap.size → Calls Try.prog 28 #[.agg #[.int .i64 g.start, .int .i64 g.rules, .slice An g.names.length cn, .slice At_ g.terms.length ct, .slice Ap g.prods.length cp], .func (.func 34) #[] #[.pointer (some ⟨B, 0, none⟩)]] w fun e w' => ∃ f, e = .returned (.slice (some ⟨w.heap.size + 1, 0, none⟩) g.names.length g.names.length) ∧ RowsAt w.heap.size (w.heap.size + 1) g.names.length (goS (loneL (L.map fun x : Int => x == 0)) g.prods) f w' ∧ Below w.heap.size w w' := fun L B u Q w hLe hw hu hB hBl => by
    exact steps_lone (loneL (L.map fun x : Int => x == 0)) g.prods g.names.length (by have := hS.few.1; omega) (by have := hS.few.2.2; omega) (fun p hp => ⟨(hS.left p hp).1, (hS.left p hp).2, by have := hS.short p hp; omega⟩) (loneL_len _) P w B g.start g.rules An At_ Ap cn g.terms.length ct cp (hP.under hw) fun p hp w2 u2 hb2 hi => goes_lone _ p.right (fun s hs => by
      rw [List.length_map, (runs_ok hLe.runs).1]; exact (hS.known p hp s hs).2) (by have := hS.short p hp; omega) P Q w2 u2 u B hi (hu.under hb2) ((hb2.cell (p := ⟨B, 0, none⟩) hBl).trans hB)
  have KM : ∀ (L : List Int) (w : World) (f : Nat → Value) (B G a : Nat), a < g.names.length → RowsAt B G g.names.length (goS (loneL (L.map fun x : Int => x == 0)) g.prods) f w → Calls Try.prog 32 #[.slice (some ⟨G, 0, none⟩) g.names.length g.names.length, f a] w (Spreads (goS (loneL (L.map fun x : Int => x == 0)) g.prods) (goS (loneL (L.map fun x : Int => x == 0)) g.prods a) 1052672 w) := fun L w f B G a ha hr =>
    spread_any B G g.names.length _ f _ 1052672 (by have := hS.few.1; omega) (fun a _ => hmem L a) (hmem L a) (by
      have h1 := leftD_le (goS (loneL (L.map fun x : Int => x == 0)) g.prods) (256 * 16) (.map []) g.names.length (fun a _ => hlen L a)
      have h2 := Nat.mul_le_mul_right (256 * 16) hS.few.1
      have h3 := hlen L a
      omega) (by omega) _ w _ hr (IntsAt.of_own (hr.own a ha))
  obtain ⟨n, hn⟩ : ∃ n, n = g.names.length := ⟨_, rfl⟩
  have hn2 : n ≤ 256 := by have := hS.few.1; omega
  have HLE := Lib.hid (fun (L : List Int) (h : Least g L) => (by rw [hn]; exact (runs_ok h.runs).1 : L.length = n))
  have HS0 := Lib.hid (show ∀ (L : List Int) (a : Nat), loopsT g L a = Come (goS (loneL (L.map fun x : Int => x == 0)) g.prods) (goS (loneL (L.map fun x : Int => x == 0)) g.prods a) (a : Int) from fun _ _ => rfl)
  rw [← hn] at KN0 KS hbx hbb KT KM ⊢
  generalize g.start = st at KN0 KS hbx hbb KT ⊢
  generalize g.rules = ru at KN0 KS hbx hbb KT ⊢
  generalize g.terms.length = lt at KN0 KS hbx hbb KT ⊢
  generalize g.prods.length = np at KN0 KS hbx hbb KT ⊢
  have HKS := Lib.hid KS
  have HKN := Lib.hid KN0
  have HKT := Lib.hid KT
  have HKM := Lib.hid KM
  have HBX := Lib.hid hbx
  have HBB := Lib.hid hbb
  have hmk := run_make_row' (P := Try.prog) 38 4 (.bool false) 1 rfl binfo rfl .i64 .i64 n (by omega) (by omega)
  have hmf : ∀ (fn : Fn) (first cap : Array Value) (w : World), (Instr.makeFunc fn first cap).run Try.prog w = .ok (.func fn first cap) w := fun _ _ _ _ => rfl
  clear h hN hT hP hbb hbx KS KT KM KN0 hsd hS hs hlen hmem hn
  go_enter Try.func20, Try.ntmps20
  go_wp2_with fail
  refine HKS.out.mono ?_
  rintro e w1 ⟨rfl, b1⟩
  have hbx1 := (b1.block _ (Gn.heap_lt HBX.out)).trans HBX.out
  have HB1 := Lib.hid (HBB.out.trans (b1.mono HBB.out.size))
  have c0 := cell_of_row _ _ 0 _ _ (0, 0) hbx1
  have c1 := cell_of_row _ _ 1 _ _ (0, 0) hbx1
  have c2 := cell_of_row _ _ 2 _ _ (0, 0) hbx1
  have c3 := cell_of_row _ _ 3 _ _ (0, 0) hbx1
  have c4 := cell_of_row _ _ 4 _ _ (0, 0) hbx1
  have HBX1 := Lib.hid hbx1
  clear b1 hbx1 HKS
  go_wp2_with fail
  refine (HKN.out w1 HB1.out).mono ?_
  rintro e w2 ⟨u, L, rfl, hle, hown, b2⟩
  have hbx2 := (b2.block _ (Gn.heap_lt HBX1.out)).trans HBX1.out
  have HB2 := Lib.hid (HB1.out.trans (b2.mono HB1.out.size))
  have hu := BoolsAt.of_own (l := L.map fun x : Int => x == 0) (by rw [List.length_map]; exact hown)
  obtain ⟨Au, cu, rfl⟩ := Gn.slice_of hown
  have HLE2 := Lib.hid hle
  have hll := HLE.out L hle
  rw [hll] at hu ⊢
  have HU := Lib.hid (hu.under ((Below.refl w2.heap.size w2).alloc (Nat.le_refl _) (.cells #[.slice Au n cu] 38)))
  have HB2a := Lib.hid (HB2.out.alloc HB2.out.size (.cells #[.slice Au n cu] 38))
  have HBX2 := Lib.hid ((heap_alloc_old w2 (.cells #[.slice Au n cu] 38) (Gn.heap_lt hbx2)).trans hbx2)
  have HBC := Lib.hid (cell_of_row _ _ 0 _ _ (0, 0) (heap_alloc_new w2 (.cells #[.slice Au n cu] 38)))
  have d0 := cell_of_row _ _ 0 _ _ (0, 0) HBX2.out
  have d1 := cell_of_row _ _ 1 _ _ (0, 0) HBX2.out
  have d2 := cell_of_row _ _ 2 _ _ (0, 0) HBX2.out
  have d3 := cell_of_row _ _ 3 _ _ (0, 0) HBX2.out
  have d4 := cell_of_row _ _ 4 _ _ (0, 0) HBX2.out
  have HVL := Lib.hid (show w2.heap.size < (w2.alloc (.cells #[.slice Au n cu] 38)).heap.size by simp)
  clear b2 hbx2 hown hu c0 c1 c2 c3 c4 hle hll
  go_wp2_with fail
  generalize hV : World.alloc w2 _ = V
  rw [hV] at HU HB2a HBX2 HBC HVL
  clear hV d0 d1 d2 d3 d4
  refine (HKT.out L w2.heap.size _ _ V HLE2.out HB2a.out HU.out HBC.out HVL.out).mono ?_
  rintro e w3 ⟨f, rfl, hr3, b3⟩
  have hbx3 := (b3.block _ (Gn.heap_lt HBX2.out)).trans HBX2.out
  have HB3 := Lib.hid (HB2a.out.trans (b3.mono HB2a.out.size))
  have f2 := cell_of_row _ _ 2 _ _ (0, 0) hbx3
  have HR3 := Lib.hid hr3
  have HG := Lib.hid (World.rowIs_made w3 (.bool false) n 4)
  have HB4 := Lib.hid ((Below.refl w3.heap.size w3).alloc (Nat.le_refl _) (.cells (madeCells #[.bool false] n) 4))
  obtain ⟨gs, hgs⟩ : ∃ gs, gs = V.heap.size + 1 := ⟨_, rfl⟩
  rw [← hgs] at HR3
  rw [← hgs]
  have HGS := Lib.hid (show gs < w3.heap.size by rw [hgs]; exact hr3.block.lt)
  clear b3 hbx3 hr3 hgs HKT HKN HU HBC HVL HBX HBX1 HBX2
  go_wp2_with fail
  clear hmk hmf f2
  obtain ⟨gb, hgb⟩ : ∃ gb, gb = w3.heap.size := ⟨_, rfl⟩
  rw [← hgb] at HG HB4 HGS
  rw [← hgb]
  have HGB := Lib.hid hgb
  clear hgb
  go_loopw [21] (fun i wr => ∃ (k : Nat) (T : Nat → Bool), k ≤ n ∧ i = .int .i64 k ∧ wr.rowIs gb 4 n (fun i => .bool (T i)) ∧ (∀ a, a < k → (T a = true ↔ loopsT g L a)) ∧ Below gb w3 wr) (fun i _ => n - (intOf i).toNat)
  case atStart => exact ⟨0, fun _ => false, Nat.zero_le _, rfl, HG.out, fun a ha => absurd ha (by omega), HB4.out⟩
  case round =>
    obtain ⟨k, T, hk, rfl, hrow, htl, hbel⟩ := hrel
    by_cases hlt : k < n
    · have hkey := Maps.keyOf_int_mk (P := Try.prog) Try.underlying3 (show (Lit.int .i64 (k : Int)).wf = true from WalkArith.wf_i64 (by omega))
      have hrr := HR3.out.below (w' := wr) (by rw [← HGB.out]; exact hbel)
      have y := hrr.block.cell hlt
      have HKC := Lib.hid (HKM.out L wr f _ gs k hlt hrr)
      have HROW := Lib.hid hrow
      have HTL := Lib.hid htl
      have HB := Lib.hid hbel
      have HSZ := Lib.hid hrow.lt
      obtain ⟨fk, hfk⟩ : ∃ fk, fk = f k := ⟨_, rfl⟩
      rw [← hfk] at y HKC
      clear hrow htl hbel hrr hfk
      go_wp2_with fail
      refine HKC.out.mono ?_
      rintro e w5 ⟨M, rfl, hm5, hnd, hcm, b5⟩
      have hrow5 := HROW.out.of_block (b5.block gb HSZ.out)
      have y5 := hrow5.cell hlt
      have yf := hrow5.frozen k
      obtain ⟨t, ht⟩ : ∃ t, t = Maps.has (setD M) (.int .i64 (k : Int)) := ⟨_, rfl⟩
      have HT := Lib.hid ht
      have HN2 := Lib.hid (show ∀ a, a < k + 1 → ((if a = k then t else T a) = true ↔ loopsT g L a) from fun a ha => by
        by_cases e : a = k
        · subst e
          rw [if_pos rfl, ht, setD_has, decide_eq_true_iff, hcm, HS0.out]
        · rw [if_neg e]
          exact HTL.out a (by omega))
      have HROW5 := Lib.hid ((hrow5.set k (.bool t)).congr (g := fun i => .bool (if i = k then t else T i)) fun i _ => by split <;> rfl)
      have HMAP := Lib.hid hm5
      have HB5 := Lib.hid ((HB.out.trans (b5.mono (Nat.le_of_lt HSZ.out))).setCell (p := ⟨gb, k, none⟩) (Nat.le_refl gb) (.bool t))
      clear ht hrow5 hm5 hnd hcm b5
      go_wp2_with (at_lookup; refine wpList_lookup_own_unit _ rfl _ _ 60 rfl 3 62 (Maps.int_keyed Try.underlying3) Try.underlying60 (zero_unit _) wr.heap.size 1052672 _ rfl HMAP.out _ _ rfl hkey ?_; rw [← HT.out])
      go_roundw
      case rel => exact ⟨k + 1, _, by omega, by simp, HROW5.out, HN2.out, HB5.out⟩
      case measure => simp [intOf]; omega
    · obtain rfl : k = n := by omega
      have HROW := Lib.hid hrow
      have HTL := Lib.hid htl
      have HB := Lib.hid hbel
      clear hrow htl hbel
      go_wp2
      go_ret
      exact ⟨L, HLE2.out, gb, T, rfl, by rw [HGB.out]; exact HB3.out.size, HROW.out, HTL.out, HB3.out.trans (HB.out.mono (by rw [HGB.out]; exact HB3.out.size))⟩
end Go.Proofs.Ytlkijnglpllcdaa.Fx
