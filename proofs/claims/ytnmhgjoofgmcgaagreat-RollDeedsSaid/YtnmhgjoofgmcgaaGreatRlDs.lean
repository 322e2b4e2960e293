/-
  Layer 18: the law's speaks.
  Layer 18: deeds as they are handed in.
-/
import Derived.Test.YtnmhgjoofgmcgaaGreatRlInv
import Derived.Test.YtnmhgjoofgmcgaaGreatRlDo
import Derived.Deep.Matrix
import Derived.ChangeOld
import Derived.ProofKit
import Derived.OpenShut
import Derived.ShutString

namespace Go.Proofs.YtnmhgjoofgmcgaaGreat.Rl
open Go.RowKit
open Fx (StrsAt)
set_option maxRecDepth 100000
set_option linter.unusedSimpArgs false
set_option linter.unusedVariables false
def na : ByteArray := ⟨#[97]⟩
def nc : ByteArray := ⟨#[99]⟩
def r1 : Rol := ⟨[⟨na, 1, 4096⟩], []⟩
theorem sp_enrol : enrolM ⟨[], []⟩ na 1 = .ok r1 := by rfl
theorem sp_open : openM r1 nc na = .error 13 := by rfl
theorem sp_find : findM r1 na = ⟨na, 1, 4096⟩ ∧ hasN r1.names na = true := by exact ⟨rfl, rfl⟩
theorem r1_sized : Sized r1 := (inv_enrol (N := 0) inv_nil sp_enrol).sized (by omega)
set_option maxHeartbeats 4000000 in
theorem speaks_any (W : World) : Calls Tryz.prog 4 #[] W fun e w' => e = .returned (.bool true) ∧ Below W.heap.size W w' := by
  have HEN := Lib.hid (enrol_any ⟨[], []⟩ na 1 ((inv_nil).sized (by omega)) (by decide) (fun _ => True) W _ (rl_zero _ W))
  rw [sp_enrol] at HEN
  go_enter Tryz.func4, Tryz.ntmps4
  go_wp2_with fail
  refine (HEN.out).mono ?_
  rintro e w1 ⟨v1, rfl, hr1, hb1⟩
  obtain ⟨A1, c1, A2, c2, rfl, _, _⟩ := hr1.form
  have e1 : (rolOf (.ok r1)).ms.length = 1 := rfl
  have e2 : (rolOf (.ok r1)).cs.length = 0 := rfl
  have e3 : ((codeOf (.ok r1) : Nat) : Int) = 0 := rfl
  rw [e1, e2] at hr1
  rw [e1, e2, e3]
  obtain ⟨V1, hV1⟩ : ∃ V1, V1 = w1.alloc (.cells #[.slice A1 1 c1, .slice A2 0 c2] 27) := ⟨_, rfl⟩
  have hbv : Below w1.heap.size w1 V1 := by rw [hV1]; exact (Below.refl _ _).alloc (Nat.le_refl _) _
  have hx : V1.heap[w1.heap.size]? = some (.cells #[.slice A1 1 c1, .slice A2 0 c2] 27 (0, 0)) := by rw [hV1]; exact heap_alloc_new _ _
  have hrv : RlAt (fun b => W.heap.size ≤ b) V1 r1 (.agg #[.slice A1 1 c1, .slice A2 0 c2]) := hr1.under hbv
  have HBV := Lib.hid (hb1.trans (hbv.mono hb1.size))
  have HRV := Lib.hid hrv
  have HX := Lib.hid hx
  have HV1 := Lib.hid hV1
  have x0 := cell_of_row _ _ 0 _ _ (0, 0) hx
  have x1 := cell_of_row _ _ 1 _ _ (0, 0) hx
  clear hr1 hb1 e1 e2 e3 hV1 hbv hx hrv
  go_upto_region 2 with fail
  rw [← HV1.out]
  have HOP := Lib.hid (open_any r1 nc na r1_sized (by decide) _ V1 _ HRV.out)
  rw [sp_open] at HOP
  go_wp2_with fail
  refine HOP.out.mono ?_
  rintro e w2 ⟨v2, rfl, hr2, hb2⟩
  obtain ⟨A3, c3, A4, c4, rfl, _, _⟩ := hr2.form
  have e1 : (rolOf (.error 13)).ms.length = 0 := rfl
  have e2 : (rolOf (.error 13)).cs.length = 0 := rfl
  have e3 : ((codeOf (.error 13) : Nat) : Int) = 13 := rfl
  rw [e1, e2, e3]
  obtain ⟨V2, hV2⟩ : ∃ V2, V2 = w2.alloc (.cells #[.slice A3 0 c3, .slice A4 0 c4] 27) := ⟨_, rfl⟩
  have hbv2 : Below w2.heap.size w2 V2 := by rw [hV2]; exact (Below.refl _ _).alloc (Nat.le_refl _) _
  have hbb : Below V1.heap.size V1 V2 := hb2.trans (hbv2.mono hb2.size)
  have HBV2 := Lib.hid (HBV.out.trans (hbb.mono HBV.out.size))
  have hx2 := (hbb.block _ (Gn.heap_lt HX.out)).trans HX.out
  have HRV2 := Lib.hid (HRV.out.under hbb)
  have HV2 := Lib.hid hV2
  clear hr2 hb2 e1 e2 e3 hV2 hbv2 hbb x0 x1
  have x0 := cell_of_row _ _ 0 _ _ (0, 0) hx2
  have x1 := cell_of_row _ _ 1 _ _ (0, 0) hx2
  clear hx2
  go_upto_region 3 with fail
  rw [← HV2.out]
  have HME := Lib.hid (Member_any r1 na _ V2 _ HRV2.out r1_sized.names (by decide))
  rw [sp_find.1, sp_find.2] at HME
  go_wp2_with fail
  refine HME.out.mono ?_
  rintro e w3 ⟨rfl, hb3⟩
  have HB3 := Lib.hid (HBV2.out.trans (hb3.mono HBV2.out.size))
  obtain ⟨V3, hV3⟩ : ∃ V3, V3 = w3.alloc (.cells #[.string na, .int .i64 1, .int .i64 4096] 45) := ⟨_, rfl⟩
  have hbv3 : Below w3.heap.size w3 V3 := by rw [hV3]; exact (Below.refl _ _).alloc (Nat.le_refl _) _
  have hx3 : V3.heap[w3.heap.size]? = some (.cells #[.string na, .int .i64 1, .int .i64 4096] 45 (0, 0)) := by rw [hV3]; exact heap_alloc_new _ _
  have m2 := cell_of_row _ _ 2 _ _ (0, 0) hx3
  have HBF := Lib.hid (HB3.out.trans (hbv3.mono HB3.out.size))
  have HV3 := Lib.hid hV3
  clear hb3 hV3 hbv3 hx3 x0 x1
  go_upto_region 4 with fail
  rw [← HV3.out]
  go_wp2_with fail
  go_ret
  exact ⟨rfl, HBF.out⟩
end Go.Proofs.YtnmhgjoofgmcgaaGreat.Rl

namespace Go.Proofs.YtnmhgjoofgmcgaaGreat.Rl
open Go.RowKit Go.ChangeShapes Go.WideShapes
set_option maxRecDepth 100000
set_option linter.unusedSimpArgs false
set_option linter.unusedVariables false
def DsIn (W : World) (l : List Dd) (v : Value) : Prop := ∃ (A : Option Addr) (cap b off : Nat), v = .slice A l.length cap ∧ (0 < l.length → A = some ⟨b, off, none⟩ ∧ b < W.heap.size) ∧ ∀ (i : Nat) (h : i < l.length), W.cell? ⟨b, off + i * 4, none⟩ = some (.int .i64 l[i].what) ∧ W.cell? ⟨b, off + i * 4 + 1, none⟩ = some (.string l[i].a) ∧ W.cell? ⟨b, off + i * 4 + 2, none⟩ = some (.string l[i].b) ∧ W.cell? ⟨b, off + i * 4 + 3, none⟩ = some (.int .i64 l[i].n)
theorem DsIn.under {W W' : World} {l : List Dd} {v : Value} (h : DsIn W l v) (b : Below W.heap.size W W') : DsIn W' l v := by
  obtain ⟨A, cap, c, off, h1, h2, h3⟩ := h
  refine ⟨A, cap, c, off, h1, fun h0 => ⟨(h2 h0).1, Nat.lt_of_lt_of_le (h2 h0).2 b.size⟩, fun i hi => ?_⟩
  have hc := (h2 (by omega)).2
  obtain ⟨e0, e1, e2, e3⟩ := h3 i hi
  exact ⟨(b.cell (p := ⟨c, off + i * 4, none⟩) hc).trans e0, (b.cell (p := ⟨c, off + i * 4 + 1, none⟩) hc).trans e1, (b.cell (p := ⟨c, off + i * 4 + 2, none⟩) hc).trans e2, (b.cell (p := ⟨c, off + i * 4 + 3, none⟩) hc).trans e3⟩
def Short (d : Dd) : Prop := d.a.size ≤ maxLen ∧ d.b.size ≤ maxLen
section
variable {H : Type} {enc : TypeId × Value → H} {w : World} {base : Nat} {held : Bool}
theorem addr_at {x : Addr} {v : Value} (h : w.cell? (x.add 0) = some v) : ∃ b off, x = ⟨b, off, none⟩ ∧ b < w.heap.size := by
  obtain ⟨b, off, spot⟩ := x
  have hspot : spot = none := by simpa [Addr.add] using World.cell?_spot h
  subst hspot
  exact ⟨b, off, rfl, by simpa [Addr.add] using World.block_lt_of_cell? w _ h⟩
theorem addr_add (b off i : Nat) : (⟨b, off, none⟩ : Addr).add i = ⟨b, off + i, none⟩ := by unfold Addr.add; split <;> simp_all
theorem deed_of {fuel : Nat} {c0 c1 c2 c3 : Value} {y : DataW H × List MemPlace} (h : DataW.trod enc Tryz.prog w base (fun _ => true) held fuel 34 [c0, c1, c2, c3] = some y) : ∃ d : Dd, c0 = .int .i64 d.what ∧ c1 = .string d.a ∧ c2 = .string d.b ∧ c3 = .int .i64 d.n ∧ Short d := by
  obtain ⟨xs, m, _, _, _, hlen, hf⟩ := DataW.trod_struct Tryz.underlying34 h
  match xs, hlen with
  | [y0, y1, y2, y3], _ =>
    have f0 := hf 0 _ rfl
    have f1 := hf 1 _ rfl
    have f2 := hf 2 _ rfl
    have f3 := hf 3 _ rfl
    obtain ⟨k, h0, _, _⟩ := DataW.trod_int Tryz.underlying3 f0
    obtain ⟨a, h1, _, ha⟩ := DataW.trod_string Tryz.underlying9 f1
    obtain ⟨b, h2, _, hb⟩ := DataW.trod_string Tryz.underlying9 f2
    obtain ⟨n, h3, _, _⟩ := DataW.trod_int Tryz.underlying3 f3
    injection h0 with h0
    injection h1 with h1
    injection h2 with h2
    injection h3 with h3
    exact ⟨⟨k, a, b, n⟩, h0, h1, h2, h3, ha, hb⟩
theorem deeds_in {fuel : Nat} {v : Value} {y : DataW H × List MemPlace} (h : DataW.trod enc Tryz.prog w base (fun _ => true) held fuel 22 [v] = some y) : ∃ l, DsIn w l v ∧ l.length ≤ maxLen ∧ ∀ d ∈ l, Short d := by
  rcases Go.Deep.open_slice Tryz.underlying22 h with ⟨hcs, _⟩ | ⟨x, l, c, m, n, D, Pl, hcs, _, hl, hm, hmm, _, hel⟩
  · injection hcs with hcs
    subst hcs
    exact ⟨[], ⟨none, 0, 0, 0, rfl, fun h => absurd h (by simp), fun i hi => absurd hi (by simp)⟩, by simp, fun p hp => by cases hp⟩
  · injection hcs with hcs
    subst hcs
    have hml : l ≤ m := by rw [hmm]; split <;> omega
    have e2 : Tryz.prog.cellsOf 34 = 4 := by kernel_rfl
    have key : ∀ i, ∃ z : Dd, i < l → w.cell? ((x.add (i * 4)).add 0) = some (.int .i64 z.what) ∧ w.cell? ((x.add (i * 4)).add 1) = some (.string z.a) ∧ w.cell? ((x.add (i * 4)).add 2) = some (.string z.b) ∧ w.cell? ((x.add (i * 4)).add 3) = some (.int .i64 z.n) ∧ Short z := fun i => by
      by_cases hi : i < l
      · obtain ⟨cs', hc, ht⟩ := hel i (by omega)
        rw [e2] at hc
        obtain ⟨_, hlen, hcell⟩ := World.cells?_some hc
        match cs', hlen with
        | [c0, c1, c2, c3], _ =>
          obtain ⟨d, r0, r1, r2, r3, hn⟩ := deed_of ht
          refine ⟨d, fun _ => ⟨?_, ?_, ?_, ?_, hn⟩⟩
          · rw [hcell 0 (by omega), ← r0]; rfl
          · rw [hcell 1 (by omega), ← r1]; rfl
          · rw [hcell 2 (by omega), ← r2]; rfl
          · rw [hcell 3 (by omega), ← r3]; rfl
      · exact ⟨⟨0, ⟨#[]⟩, ⟨#[]⟩, 0⟩, fun h => absurd h hi⟩
    obtain ⟨xs, hxs⟩ := Classical.axiomOfChoice key
    have hlen : ((List.range l).map xs).length = l := by simp
    refine ⟨(List.range l).map xs, ?_, by rw [hlen]; omega, fun p hp => ?_⟩
    · rcases Nat.eq_zero_or_pos l with h0 | h0
      · exact ⟨some x, c, 0, 0, by rw [hlen], fun h => absurd h (by rw [hlen]; omega), fun i hi => absurd hi (by rw [hlen]; omega)⟩
      · have hp := (hxs 0 h0).1
        have hx0 : (x.add (0 * 4)).add 0 = x.add 0 := by simp [Addr.add]
        rw [hx0] at hp
        obtain ⟨b, off, rfl, hb⟩ := addr_at hp
        refine ⟨some ⟨b, off, none⟩, c, b, off, by rw [hlen], fun _ => ⟨rfl, hb⟩, fun i hi => ?_⟩
        obtain ⟨q0, q1, q2, q3, _⟩ := hxs i (by rw [← hlen]; exact hi)
        have a0 : ∀ j : Nat, ((⟨b, off, none⟩ : Addr).add (i * 4)).add j = ⟨b, off + i * 4 + j, none⟩ := fun j => by rw [addr_add, addr_add]
        rw [a0] at q0 q1 q2 q3
        have e : ((List.range l).map xs)[i] = xs i := by simp
        rw [e]
        exact ⟨q0, q1, q2, q3⟩
    · obtain ⟨i, hi, rfl⟩ := List.mem_map.1 hp
      exact (hxs i (List.mem_range.1 hi)).2.2.2.2
end
end Go.Proofs.YtnmhgjoofgmcgaaGreat.Rl
