/-
  Layer 18: deeds as they are handed in.
-/
import Derived.Test.YtdkcfhmdgignhaaRlDo
import Derived.Deep.Matrix
import Derived.ChangeOld
import Derived.ProofKit
import Derived.OpenShut
import Derived.ShutString
namespace Go.Proofs.Ytdkcfhmdgignhaa.Rl
open Go.RowKit Go.ChangeShapes Go.WideShapes
set_option maxRecDepth 100000
set_option linter.unusedSimpArgs false
set_option linter.unusedVariables false
def DsIn (W : World) (l : List Dd) (v : Value) : Prop := ∃ (A : Option Addr) (cap b off : Nat), v = .slice A l.length cap ∧ (0 < l.length → A = some ⟨b, off, none⟩ ∧ b < W.heap.size) ∧ ∀ (i : Nat) (h : i < l.length), W.cell? ⟨b, off + i * 4, none⟩ = some (.int .i64 l[i].what) ∧ W.cell? ⟨b, off + i * 4 + 1, none⟩ = some (.string l[i].a) ∧ W.cell? ⟨b, off + i * 4 + 2, none⟩ = some (.string l[i].b) ∧ W.cell? ⟨b, off + i * 4 + 3, none⟩ = some (.int .i64 l[i].n)
theorem DsIn.under {W W' : World} {l : List Dd} {v : Value} (h : DsIn W l v) (b : Below W.heap.size W W') : DsIn W' l v := by
  obtain ⟨A, cap, c, off, h1, h2, h3⟩ := h
  refine ⟨A, cap, c, off, h1, fun h0 => ⟨(h2 h0).1, Nat.lt_of_lt_of_le (h2 h0).2 b.size⟩, fun i hi => ?_⟩
  have hc := (h2 (by omega)).2
  obtain ⟨e0, e1, e2, e3⟩ := h3 i hi
  exact ⟨(b.cell (p := ⟨c, off + i * 4, none⟩) hc).trans e0, (b.cell (p := ⟨c, off + i * 4 + 1, none⟩) hc).trans e1, (b.cell (p := ⟨c, off + i * 4 + 2, none⟩) hc).trans e2, (b.cell (p := ⟨c, off + i * 4 + 3, none⟩) hc).trans e3⟩
def Short (d : Dd) : Prop := d.a.size ≤ maxLen ∧ d.b.size ≤ maxLen
section
variable {H : Type} {enc : TypeId × Value → H} {w : World} {base : Nat} {held : Bool}
theorem addr_at {x : Addr} {v : Value} (h : w.cell? (x.add 0) = some v) : ∃ b off, x = ⟨b, off, none⟩ ∧ b < w.heap.size := by
  obtain ⟨b, off, spot⟩ := x
  have hspot : spot = none := by simpa [Addr.add] using World.cell?_spot h
  subst hspot
  exact ⟨b, off, rfl, by simpa [Addr.add] using World.block_lt_of_cell? w _ h⟩
theorem addr_add (b off i : Nat) : (⟨b, off, none⟩ : Addr).add i = ⟨b, off + i, none⟩ := by unfold Addr.add; split <;> simp_all
theorem deed_of {fuel : Nat} {c0 c1 c2 c3 : Value} {y : DataW H × List MemPlace} (h : DataW.trod enc Try.prog w base (fun _ => true) held fuel 46 [c0, c1, c2, c3] = some y) : ∃ d : Dd, c0 = .int .i64 d.what ∧ c1 = .string d.a ∧ c2 = .string d.b ∧ c3 = .int .i64 d.n ∧ Short d := by
  obtain ⟨xs, m, _, _, _, hlen, hf⟩ := DataW.trod_struct Try.underlying46 h
  match xs, hlen with
  | [y0, y1, y2, y3], _ =>
    have f0 := hf 0 _ rfl
    have f1 := hf 1 _ rfl
    have f2 := hf 2 _ rfl
    have f3 := hf 3 _ rfl
    obtain ⟨k, h0, _, _⟩ := DataW.trod_int Try.underlying3 f0
    obtain ⟨a, h1, _, ha⟩ := DataW.trod_string Try.underlying9 f1
    obtain ⟨b, h2, _, hb⟩ := DataW.trod_string Try.underlying9 f2
    obtain ⟨n, h3, _, _⟩ := DataW.trod_int Try.underlying3 f3
    injection h0 with h0
    injection h1 with h1
    injection h2 with h2
    injection h3 with h3
    exact ⟨⟨k, a, b, n⟩, h0, h1, h2, h3, ha, hb⟩
theorem deeds_in {fuel : Nat} {v : Value} {y : DataW H × List MemPlace} (h : DataW.trod enc Try.prog w base (fun _ => true) held fuel 43 [v] = some y) : ∃ l, DsIn w l v ∧ l.length ≤ maxLen ∧ ∀ d ∈ l, Short d := by
  rcases Go.Deep.open_slice Try.underlying43 h with ⟨hcs, _⟩ | ⟨x, l, c, m, n, D, Pl, hcs, _, hl, hm, hmm, _, hel⟩
  · injection hcs with hcs
    subst hcs
    exact ⟨[], ⟨none, 0, 0, 0, rfl, fun h => absurd h (by simp), fun i hi => absurd hi (by simp)⟩, by simp, fun p hp => by cases hp⟩
  · injection hcs with hcs
    subst hcs
    have hml : l ≤ m := by rw [hmm]; split <;> omega
    have e2 : Try.prog.cellsOf 46 = 4 := by kernel_rfl
    have key : ∀ i, ∃ z : Dd, i < l → w.cell? ((x.add (i * 4)).add 0) = some (.int .i64 z.what) ∧ w.cell? ((x.add (i * 4)).add 1) = some (.string z.a) ∧ w.cell? ((x.add (i * 4)).add 2) = some (.string z.b) ∧ w.cell? ((x.add (i * 4)).add 3) = some (.int .i64 z.n) ∧ Short z := fun i => by
      by_cases hi : i < l
      · obtain ⟨cs', hc, ht⟩ := hel i (by omega)
        rw [e2] at hc
        obtain ⟨_, hlen, hcell⟩ := World.cells?_some hc
        match cs', hlen with
        | [c0, c1, c2, c3], _ =>
          obtain ⟨d, r0, r1, r2, r3, hn⟩ := deed_of ht
          refine ⟨d, fun _ => ⟨?_, ?_, ?_, ?_, hn⟩⟩
          · rw [hcell 0 (by omega), ← r0]; rfl
          · rw [hcell 1 (by omega), ← r1]; rfl
          · rw [hcell 2 (by omega), ← r2]; rfl
          · rw [hcell 3 (by omega), ← r3]; rfl
      · exact ⟨⟨0, ⟨#[]⟩, ⟨#[]⟩, 0⟩, fun h => absurd h hi⟩
    obtain ⟨xs, hxs⟩ := Classical.axiomOfChoice key
    have hlen : ((List.range l).map xs).length = l := by simp
    refine ⟨(List.range l).map xs, ?_, by rw [hlen]; omega, fun p hp => ?_⟩
    · rcases Nat.eq_zero_or_pos l with h0 | h0
      · exact ⟨some x, c, 0, 0, by rw [hlen], fun h => absurd h (by rw [hlen]; omega), fun i hi => absurd hi (by rw [hlen]; omega)⟩
      · have hp := (hxs 0 h0).1
        have hx0 : (x.add (0 * 4)).add 0 = x.add 0 := by simp [Addr.add]
        rw [hx0] at hp
        obtain ⟨b, off, rfl, hb⟩ := addr_at hp
        refine ⟨some ⟨b, off, none⟩, c, b, off, by rw [hlen], fun _ => ⟨rfl, hb⟩, fun i hi => ?_⟩
        obtain ⟨q0, q1, q2, q3, _⟩ := hxs i (by rw [← hlen]; exact hi)
        have a0 : ∀ j : Nat, ((⟨b, off, none⟩ : Addr).add (i * 4)).add j = ⟨b, off + i * 4 + j, none⟩ := fun j => by rw [addr_add, addr_add]
        rw [a0] at q0 q1 q2 q3
        have e : ((List.range l).map xs)[i] = xs i := by simp
        rw [e]
        exact ⟨q0, q1, q2, q3⟩
    · obtain ⟨i, hi, rfl⟩ := List.mem_map.1 hp
      exact (hxs i (List.mem_range.1 hi)).2.2.2.2
end
end Go.Proofs.Ytdkcfhmdgignhaa.Rl
