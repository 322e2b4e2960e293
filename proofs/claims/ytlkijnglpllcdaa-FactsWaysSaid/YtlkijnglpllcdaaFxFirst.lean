/-
  The walk of First.
-/
import Derived.Test.YtlkijnglpllcdaaFxTerm
namespace Go.Proofs.Ytlkijnglpllcdaa.Fx
open Go.RowKit
set_option maxRecDepth 100000
set_option linter.unusedSimpArgs false

theorem aheadGo_len (L : List Int) : ∀ r : List Int, (aheadGo L r).length ≤ r.length
  | [] => by simp [aheadGo]
  | s :: r => by
    have := aheadGo_len L r
    rw [aheadGo]
    split <;> simp <;> omega
theorem aheadGo_mem (L : List Int) : ∀ (r : List Int) {y : Int}, y ∈ aheadGo L r → y ∈ r
  | [], y, h => by simp [aheadGo] at h
  | s :: r, y, h => by
    rw [aheadGo] at h
    split at h
    · rw [List.mem_singleton] at h; simp [h]
    · rcases List.mem_cons.1 h with h | h
      · simp [h]
      · exact List.mem_cons_of_mem _ (aheadGo_mem L r h)
theorem aheadL_len (L r : List Int) : (aheadL L r).length ≤ r.length := by
  unfold aheadL
  split
  · exact Nat.zero_le _
  · exact aheadGo_len L r
theorem aheadL_mem {L r : List Int} {y : Int} (h : y ∈ aheadL L r) : y ∈ r := by
  unfold aheadL at h
  split at h
  · cases h
  · exact aheadGo_mem L r h
/-- The terminals that a word of this may begin with. -/
def firstT (g : PG) (L : List Int) (a : Nat) (l : List Int) : Prop := ∃ M, TermsOf M l ∧ ∀ x, x ∈ M ↔ Come (goS (aheadL L) g.prods) (goS (aheadL L) g.prods a) x
/-- Rows of the call's own, each telling what holds at its place. -/
def TellsRows (n : Nat) (T : Nat → List Int → Prop) (W : World) (e : Ending) (w' : World) : Prop :=
  ∃ (g : Nat) (F : Nat → Value) (R : Nat → List Int), e = .returned (.slice (some ⟨g, 0, none⟩) n n) ∧ W.heap.size ≤ g ∧ w'.rowIs g 22 n F ∧ (∀ a, a < n → IntsAt (fun q => g < q) w' (R a) (F a) ∧ T a (R a)) ∧ Below W.heap.size W w'

set_option maxHeartbeats 8000000 in
theorem first_any (g : PG) (hs : g.Fits) (hsd : soundB g = true) (P : Nat → Prop) (W : World) (v : Value) (h : PgAt P W g v) :
    Calls Try.prog 16 #[v] W fun e w' => ∃ L, Least g L ∧ TellsRows g.names.length (firstT g L) W e w' := by
  have hS := snd_of hsd
  have KN0 : ∀ w, Below W.heap.size W w → Calls Try.prog 10 #[v] w (Lens g w) := fun w hw => shortest_any g hs hsd P w v (h.under hw)
  obtain ⟨An, At_, Ap, cn, ct, cp, rfl, hN, hT, hP⟩ := h.open_
  have hbb : Below W.heap.size W (W.alloc (.cells #[.int .i64 g.start, .int .i64 g.rules, .slice An g.names.length cn, .slice At_ g.terms.length ct, .slice Ap g.prods.length cp] 30)) := (Below.refl _ _).alloc (Nat.le_refl _) _
  have hbx := heap_alloc_new W (.cells #[.int .i64 g.start, .int .i64 g.rules, .slice An g.names.length cn, .slice At_ g.terms.length ct, .slice Ap g.prods.length cp] 30)
  have KS := sound_any g hs P _ _ (h.under hbb)
  rw [hsd] at KS
  have hlen : ∀ (L : List Int) (a : Nat), (goS (aheadL L) g.prods a).length ≤ 256 * 16 := fun L a => by
    have h1 := goS_len (aheadL L) 16 (aheadL_len _) g.prods hS.short a
    have h2 := Nat.mul_le_mul_right 16 hS.few.2.2
    omega
  have hmem : ∀ (L : List Int) (a : Nat), ∀ y ∈ goS (aheadL L) g.prods a, -1048577 ≤ y ∧ y < (g.names.length : Int) := fun L a y hy => by
    obtain ⟨p, hp, hy2⟩ := goS_mem hy
    have h1 := hS.known p hp y (aheadL_mem hy2)
    have h2 := hS.few.2.1
    omega
  have KT : ∀ (L : List Int) (B : Nat) (u : Value) (Q : Nat → Prop) w, Least g L → Below W.heap.size W w → IntsAt Q w L u → w.cell? ⟨B, 0, none⟩ = some u → B < w.heap.size → Calls Try.prog 28 #[.agg #[.int .i64 g.start, .int .i64 g.rules, .slice An g.names.length cn, .slice At_ g.terms.length ct, .slice Ap g.prods.length cp], .func (.func 29) #[] #[.pointer (some ⟨B, 0, none⟩)]] w fun e w' => ∃ f, e = .returned (.slice (some ⟨w.heap.size + 1, 0, none⟩) g.names.length g.names.length) ∧ RowsAt w.heap.size (w.heap.size + 1) g.names.length (goS (aheadL L) g.prods) f w' ∧ Below w.heap.size w w' := fun L B u Q w hLe hw hu hB hBl => by
    exact steps_ahead (aheadL L) g.prods g.names.length (by have := hS.few.1; omega) (by have := hS.few.2.2; omega) (fun p hp => ⟨(hS.left p hp).1, (hS.left p hp).2, by have := hS.short p hp; omega⟩) (aheadL_len _) P w B g.start g.rules An At_ Ap cn g.terms.length ct cp (hP.under hw) fun p hp w2 u2 hb2 hi => goes_ahead L p.right (runs_ok hLe.runs).2 (fun s hs => by
      rw [(runs_ok hLe.runs).1]; exact (hS.known p hp s hs).2) (by have := hS.short p hp; omega) P Q w2 u2 u B hi (hu.under hb2) ((hb2.cell (p := ⟨B, 0, none⟩) hBl).trans hB)
  have KM : ∀ (L : List Int) (w : World) (f : Nat → Value) (B G a : Nat), a < g.names.length → RowsAt B G g.names.length (goS (aheadL L) g.prods) f w → Calls Try.prog 32 #[.slice (some ⟨G, 0, none⟩) g.names.length g.names.length, f a] w (Spreads (goS (aheadL L) g.prods) (goS (aheadL L) g.prods a) 1052672 w) := fun L w f B G a ha hr =>
    spread_any B G g.names.length _ f _ 1052672 (by have := hS.few.1; omega) (fun a _ => hmem L a) (hmem L a) (by
      have h1 := leftD_le (goS (aheadL L) g.prods) (256 * 16) (.map []) g.names.length (fun a _ => hlen L a)
      have h2 := Nat.mul_le_mul_right (256 * 16) hS.few.1
      have h3 := hlen L a
      omega) (by omega) _ w _ hr (IntsAt.of_own (hr.own a ha))
  obtain ⟨n, hn⟩ : ∃ n, n = g.names.length := ⟨_, rfl⟩
  have hn2 : n ≤ 256 := by have := hS.few.1; omega
  have HLE := Lib.hid (fun (L : List Int) (h : Least g L) => (by rw [hn]; exact (runs_ok h.runs).1 : L.length = n))
  have HMB := Lib.hid (fun (L M : List Int) (a : Nat) (h : ∀ x, x ∈ M ↔ Come (goS (aheadL L) g.prods) (goS (aheadL L) g.prods a) x) => (fun x hx => by
    have h0 : ∀ a, ∀ y ∈ goS (aheadL L) g.prods a, -1048577 ≤ y ∧ y ≤ 1048577 := fun a y hy => by have := hmem L a y hy; have := hS.few.1; omega
    cases (h x).1 hx with
    | base _ h1 => exact h0 a x h1
    | step b _ _ h1 => exact h0 b x h1 : ∀ x ∈ M, -1048577 ≤ x ∧ x ≤ 1048577))
  have HTM := Lib.hid (fun M K0 b hK hk W hm => terminals_any M K0 b hK hk W hm)
  rw [← hn] at KN0 KS hbx hbb KT KM ⊢
  generalize g.start = st at KN0 KS hbx hbb KT ⊢
  generalize g.rules = ru at KN0 KS hbx hbb KT ⊢
  generalize g.terms.length = lt at KN0 KS hbx hbb KT ⊢
  generalize g.prods.length = np at KN0 KS hbx hbb KT ⊢
  have HKS := Lib.hid KS
  have HKN := Lib.hid KN0
  have HKT := Lib.hid KT
  have HKM := Lib.hid KM
  have HBX := Lib.hid hbx
  have HBB := Lib.hid hbb
  have hmk := run_make_row' (P := Try.prog) 23 22 (.slice none 0 0) 24 rfl rinfo rfl .i64 .i64 n (by omega) (by omega)
  have hmf : ∀ (fn : Fn) (first cap : Array Value) (w : World), (Instr.makeFunc fn first cap).run Try.prog w = .ok (.func fn first cap) w := fun _ _ _ _ => rfl
  clear h hN hT hP hbb hbx KS KT KM KN0 hsd hS hs hlen hmem hn
  go_enter Try.func16, Try.ntmps16
  go_wp2_with fail
  refine HKS.out.mono ?_
  rintro e w1 ⟨rfl, b1⟩
  have hbx1 := (b1.block _ (Gn.heap_lt HBX.out)).trans HBX.out
  have HB1 := Lib.hid (HBB.out.trans (b1.mono HBB.out.size))
  have c0 := cell_of_row _ _ 0 _ _ (0, 0) hbx1
  have c1 := cell_of_row _ _ 1 _ _ (0, 0) hbx1
  have c2 := cell_of_row _ _ 2 _ _ (0, 0) hbx1
  have c3 := cell_of_row _ _ 3 _ _ (0, 0) hbx1
  have c4 := cell_of_row _ _ 4 _ _ (0, 0) hbx1
  have HBX1 := Lib.hid hbx1
  clear b1 hbx1 HKS
  go_wp2_with fail
  refine (HKN.out w1 HB1.out).mono ?_
  rintro e w2 ⟨bu, L, rfl, hbu, hrow, hle, b2⟩
  have hbx2 := (b2.block _ (Gn.heap_lt HBX1.out)).trans HBX1.out
  have HB2 := Lib.hid (HB1.out.trans (b2.mono HB1.out.size))
  have hu := hrow.ints
  have HLE2 := Lib.hid hle
  have hll := HLE.out L hle
  rw [hll] at hu ⊢
  have HU := Lib.hid (hu.under ((Below.refl w2.heap.size w2).alloc (Nat.le_refl _) (.cells #[.slice (some ⟨bu, 0, none⟩) n n] 22)))
  have HB2a := Lib.hid (HB2.out.alloc HB2.out.size (.cells #[.slice (some ⟨bu, 0, none⟩) n n] 22))
  have HBX2 := Lib.hid ((heap_alloc_old w2 (.cells #[.slice (some ⟨bu, 0, none⟩) n n] 22) (Gn.heap_lt hbx2)).trans hbx2)
  have HBC := Lib.hid (cell_of_row _ _ 0 _ _ (0, 0) (heap_alloc_new w2 (.cells #[.slice (some ⟨bu, 0, none⟩) n n] 22)))
  have d0 := cell_of_row _ _ 0 _ _ (0, 0) HBX2.out
  have d1 := cell_of_row _ _ 1 _ _ (0, 0) HBX2.out
  have d2 := cell_of_row _ _ 2 _ _ (0, 0) HBX2.out
  have d3 := cell_of_row _ _ 3 _ _ (0, 0) HBX2.out
  have d4 := cell_of_row _ _ 4 _ _ (0, 0) HBX2.out
  have HVL := Lib.hid (show w2.heap.size < (w2.alloc (.cells #[.slice (some ⟨bu, 0, none⟩) n n] 22)).heap.size by simp)
  clear b2 hbx2 hrow hbu hu c0 c1 c2 c3 c4 hle hll
  go_wp2_with fail
  generalize hV : World.alloc w2 _ = V
  rw [hV] at HU HB2a HBX2 HBC HVL
  clear hV d0 d1 d2 d3 d4
  refine (HKT.out L w2.heap.size _ _ V HLE2.out HB2a.out HU.out HBC.out HVL.out).mono ?_
  rintro e w3 ⟨f, rfl, hr3, b3⟩
  have hbx3 := (b3.block _ (Gn.heap_lt HBX2.out)).trans HBX2.out
  have HB3 := Lib.hid (HB2a.out.trans (b3.mono HB2a.out.size))
  have f2 := cell_of_row _ _ 2 _ _ (0, 0) hbx3
  have HR3 := Lib.hid hr3
  have HG := Lib.hid (World.rowIs_made w3 (.slice none 0 0) n 22)
  have HB4 := Lib.hid ((Below.refl w3.heap.size w3).alloc (Nat.le_refl _) (.cells (madeCells #[.slice none 0 0] n) 22))
  obtain ⟨gs, hgs⟩ : ∃ gs, gs = V.heap.size + 1 := ⟨_, rfl⟩
  rw [← hgs] at HR3
  rw [← hgs]
  have HGS := Lib.hid (show gs < w3.heap.size by rw [hgs]; exact hr3.block.lt)
  clear b3 hbx3 hr3 hgs HKT HKN HU HBC HVL HBX HBX1 HBX2
  go_wp2_with fail
  clear hmk hmf f2
  obtain ⟨gb, hgb⟩ : ∃ gb, gb = w3.heap.size := ⟨_, rfl⟩
  rw [← hgb] at HG HB4 HGS
  rw [← hgb]
  have HGB := Lib.hid hgb
  clear hgb
  go_loopw [21] (fun i wr => ∃ (k : Nat) (F : Nat → Value) (R : Nat → List Int), k ≤ n ∧ i = .int .i64 k ∧ wr.rowIs gb 22 n F ∧ (∀ a, a < k → IntsAt (fun q => gb < q) wr (R a) (F a) ∧ firstT g L a (R a)) ∧ Below gb w3 wr) (fun i _ => n - (intOf i).toNat)
  case atStart => exact ⟨0, fun _ => .slice none 0 0, fun _ => [], Nat.zero_le _, rfl, HG.out, fun a ha => absurd ha (by omega), HB4.out⟩
  case round =>
    obtain ⟨k, F, R, hk, rfl, hrow, htl, hbel⟩ := hrel
    by_cases hlt : k < n
    · have hrr := HR3.out.below (w' := wr) (by rw [← HGB.out]; exact hbel)
      have y := hrr.block.cell hlt
      have HKC := Lib.hid (HKM.out L wr f _ gs k hlt hrr)
      have HROW := Lib.hid hrow
      have HTL := Lib.hid htl
      have HB := Lib.hid hbel
      have HSZ := Lib.hid hrow.lt
      obtain ⟨fk, hfk⟩ : ∃ fk, fk = f k := ⟨_, rfl⟩
      rw [← hfk] at y HKC
      clear hrow htl hbel hrr hfk
      go_wp2_with fail
      refine HKC.out.mono ?_
      rintro e w5 ⟨M, rfl, hm5, hnd, hcm, b5⟩
      have HKD := Lib.hid (HTM.out M 1052672 wr.heap.size (by omega) (HMB.out L M k hcm) w5 hm5)
      have HCM := Lib.hid hcm
      have HB5 := Lib.hid b5
      clear hm5 hnd hcm b5
      go_wp2_with fail
      refine HKD.out.mono ?_
      rintro e w6 ⟨u6, l6, rfl, ht6, hi6, b6⟩
      have hb6 := HB5.out.trans (b6.mono HB5.out.size)
      have hrow6 := HROW.out.of_block (hb6.block gb HSZ.out)
      have y6 := hrow6.cell hlt
      have yf := hrow6.frozen k
      obtain ⟨A6, c6, rfl⟩ := hi6.form
      have HROW6 := Lib.hid (hrow6.set k (.slice A6 l6.length c6))
      have hset : ∀ q, gb < q → ∀ j, (w6.setCell ⟨gb, k, none⟩ (.slice A6 l6.length c6)).cell? ⟨q, j, none⟩ = w6.cell? ⟨q, j, none⟩ := fun q hq j => Gn.cell_same (Gn.set_keep w6 k _ (show gb ≠ q by omega)) j
      have hss : w6.heap.size ≤ (w6.setCell ⟨gb, k, none⟩ (.slice A6 l6.length c6)).heap.size := by simp [World.setCell]
      have HN2 := Lib.hid (show ∀ a, a < k + 1 → IntsAt (fun q => gb < q) (w6.setCell ⟨gb, k, none⟩ (.slice A6 l6.length c6)) (if a = k then l6 else R a) (if a = k then .slice A6 l6.length c6 else F a) ∧ firstT g L a (if a = k then l6 else R a) from fun a ha => by
        by_cases e : a = k
        · subst e
          rw [if_pos rfl, if_pos rfl]
          exact ⟨hi6.keep hss fun q hq _ => ⟨by have := HSZ.out; have := HB5.out.size; omega, fun j => hset q (by have := HSZ.out; have := HB5.out.size; omega) j⟩, M, ht6, HCM.out⟩
        · rw [if_neg e, if_neg e]
          obtain ⟨h1, h2⟩ := HTL.out a (by omega)
          exact ⟨(h1.under hb6).keep hss fun q hq _ => ⟨hq, fun j => hset q hq j⟩, h2⟩)
      have HB7 := Lib.hid ((HB.out.trans (hb6.mono (Nat.le_of_lt HSZ.out))).setCell (p := ⟨gb, k, none⟩) (Nat.le_refl gb) (.slice A6 l6.length c6))
      clear ht6 hi6 b6 hb6 hrow6 hset hss
      go_wp2
      go_roundw
      case rel => exact ⟨k + 1, _, _, by omega, by simp, HROW6.out, HN2.out, HB7.out⟩
      case measure => simp [intOf]; omega
    · obtain rfl : k = n := by omega
      have HROW := Lib.hid hrow
      have HTL := Lib.hid htl
      have HB := Lib.hid hbel
      clear hrow htl hbel
      go_wp2
      go_ret
      exact ⟨L, HLE2.out, gb, F, R, rfl, by rw [HGB.out]; exact HB3.out.size, HROW.out, HTL.out, HB3.out.trans (HB.out.mono (by rw [HGB.out]; exact HB3.out.size))⟩
end Go.Proofs.Ytlkijnglpllcdaa.Fx
