/-
  How a row of Acts reads that is handed in.
-/
import Derived.Test.YtdkigbaodbkebaaGn
import Derived.Deep.Matrix
import Derived.ChangeOld
import Derived.ProofKit
import Derived.OpenShut
import Derived.ShutString
namespace Go.Proofs.Ytdkigbaodbkebaa.Nt
open Go.RowKit Go.ChangeShapes Go.WideShapes
set_option maxRecDepth 100000
set_option linter.unusedSimpArgs false
set_option linter.unusedVariables false
structure Ac where
  what : Int
  i : Int
  at_ : Int
  by_ : Nat
  text : ByteArray
def AcsIn (W : World) (l : List Ac) (v : Value) : Prop := ∃ (A : Option Addr) (cap b off : Nat), v = .slice A l.length cap ∧ (0 < l.length → A = some ⟨b, off, none⟩ ∧ b < W.heap.size) ∧ ∀ (i : Nat) (h : i < l.length), W.cell? ⟨b, off + i * 5, none⟩ = some (.int .i64 l[i].what) ∧ W.cell? ⟨b, off + i * 5 + 1, none⟩ = some (.int .i64 l[i].i) ∧ W.cell? ⟨b, off + i * 5 + 2, none⟩ = some (.int .i64 l[i].at_) ∧ W.cell? ⟨b, off + i * 5 + 3, none⟩ = some (.int .u32 ((l[i].by_ : Nat) : Int)) ∧ W.cell? ⟨b, off + i * 5 + 4, none⟩ = some (.string l[i].text)
theorem AcsIn.under {W W' : World} {l : List Ac} {v : Value} (h : AcsIn W l v) (b : Below W.heap.size W W') : AcsIn W' l v := by
  obtain ⟨A, cap, c, off, h1, h2, h3⟩ := h
  refine ⟨A, cap, c, off, h1, fun h0 => ⟨(h2 h0).1, Nat.lt_of_lt_of_le (h2 h0).2 b.size⟩, fun i hi => ?_⟩
  have hc := (h2 (by omega)).2
  obtain ⟨e0, e1, e2, e3, e4⟩ := h3 i hi
  exact ⟨(b.cell (p := ⟨c, off + i * 5, none⟩) hc).trans e0, (b.cell (p := ⟨c, off + i * 5 + 1, none⟩) hc).trans e1, (b.cell (p := ⟨c, off + i * 5 + 2, none⟩) hc).trans e2, (b.cell (p := ⟨c, off + i * 5 + 3, none⟩) hc).trans e3, (b.cell (p := ⟨c, off + i * 5 + 4, none⟩) hc).trans e4⟩
def ShortA (d : Ac) : Prop := d.text.size ≤ maxLen
section
variable {H : Type} {enc : TypeId × Value → H} {w : World} {base : Nat} {held : Bool}
theorem addr_at {x : Addr} {v : Value} (h : w.cell? (x.add 0) = some v) : ∃ b off, x = ⟨b, off, none⟩ ∧ b < w.heap.size := by
  obtain ⟨b, off, spot⟩ := x
  have hspot : spot = none := by simpa [Addr.add] using World.cell?_spot h
  subst hspot
  exact ⟨b, off, rfl, by simpa [Addr.add] using World.block_lt_of_cell? w _ h⟩
theorem addr_add (b off i : Nat) : (⟨b, off, none⟩ : Addr).add i = ⟨b, off + i, none⟩ := by unfold Addr.add; split <;> simp_all
theorem u32_nat' {n : Int} (h : (Lit.int .u32 n).wf = true) : ∃ m : Nat, n = (m : Int) := by
  refine ⟨n.toNat, ?_⟩
  simp [Lit.wf, IntKind.min, IntKind.max, IntKind.signed, IntKind.bits] at h
  omega
theorem ac_of {fuel : Nat} {c0 c1 c2 c3 c4 : Value} {y : DataW H × List MemPlace} (h : DataW.trod enc Try.prog w base (fun _ => true) held fuel 33 [c0, c1, c2, c3, c4] = some y) : ∃ d : Ac, c0 = .int .i64 d.what ∧ c1 = .int .i64 d.i ∧ c2 = .int .i64 d.at_ ∧ c3 = .int .u32 ((d.by_ : Nat) : Int) ∧ c4 = .string d.text ∧ ShortA d := by
  obtain ⟨xs, m, _, _, _, hlen, hf⟩ := DataW.trod_struct Try.underlying33 h
  match xs, hlen with
  | [y0, y1, y2, y3, y4], _ =>
    have f0 := hf 0 _ rfl
    have f1 := hf 1 _ rfl
    have f2 := hf 2 _ rfl
    have f3 := hf 3 _ rfl
    have f4 := hf 4 _ rfl
    obtain ⟨k0, h0, _, _⟩ := DataW.trod_int Try.underlying3 f0
    obtain ⟨k1, h1, _, _⟩ := DataW.trod_int Try.underlying3 f1
    obtain ⟨k2, h2, _, _⟩ := DataW.trod_int Try.underlying3 f2
    obtain ⟨m3, h3, _, hw3⟩ := DataW.trod_int Try.underlying31 f3
    obtain ⟨k3, rfl⟩ := u32_nat' hw3
    obtain ⟨k4, h4, _, hs4⟩ := DataW.trod_string Try.underlying9 f4
    injection h0 with h0
    injection h1 with h1
    injection h2 with h2
    injection h3 with h3
    injection h4 with h4
    exact ⟨⟨k0, k1, k2, k3, k4⟩, h0, h1, h2, h3, h4, hs4⟩
theorem acs_in {fuel : Nat} {v : Value} {y : DataW H × List MemPlace} (h : DataW.trod enc Try.prog w base (fun _ => true) held fuel 22 [v] = some y) : ∃ l, AcsIn w l v ∧ l.length ≤ maxLen ∧ ∀ d ∈ l, ShortA d := by
  rcases Go.Deep.open_slice Try.underlying22 h with ⟨hcs, _⟩ | ⟨x, l, c, m, n, D, Pl, hcs, _, hl, hm, hmm, _, hel⟩
  · injection hcs with hcs
    subst hcs
    exact ⟨[], ⟨none, 0, 0, 0, rfl, fun h => absurd h (by simp), fun i hi => absurd hi (by simp)⟩, by simp, fun p hp => by cases hp⟩
  · injection hcs with hcs
    subst hcs
    have hml : l ≤ m := by rw [hmm]; split <;> omega
    have e2 : Try.prog.cellsOf 33 = 5 := by kernel_rfl
    have key : ∀ i, ∃ z : Ac, i < l → w.cell? ((x.add (i * 5)).add 0) = some (.int .i64 z.what) ∧ w.cell? ((x.add (i * 5)).add 1) = some (.int .i64 z.i) ∧ w.cell? ((x.add (i * 5)).add 2) = some (.int .i64 z.at_) ∧ w.cell? ((x.add (i * 5)).add 3) = some (.int .u32 ((z.by_ : Nat) : Int)) ∧ w.cell? ((x.add (i * 5)).add 4) = some (.string z.text) ∧ ShortA z := fun i => by
      by_cases hi : i < l
      · obtain ⟨cs', hc, ht⟩ := hel i (by omega)
        rw [e2] at hc
        obtain ⟨_, hlen, hcell⟩ := World.cells?_some hc
        match cs', hlen with
        | [c0, c1, c2, c3, c4], _ =>
          obtain ⟨d, r0, r1, r2, r3, r4, hn⟩ := ac_of ht
          refine ⟨d, fun _ => ⟨?_, ?_, ?_, ?_, ?_, hn⟩⟩
          · rw [hcell 0 (by omega), ← r0]; rfl
          · rw [hcell 1 (by omega), ← r1]; rfl
          · rw [hcell 2 (by omega), ← r2]; rfl
          · rw [hcell 3 (by omega), ← r3]; rfl
          · rw [hcell 4 (by omega), ← r4]; rfl
      · exact ⟨⟨0, 0, 0, 0, ⟨#[]⟩⟩, fun h => absurd h hi⟩
    obtain ⟨xs, hxs⟩ := Classical.axiomOfChoice key
    have hlen : ((List.range l).map xs).length = l := by simp
    refine ⟨(List.range l).map xs, ?_, by rw [hlen]; omega, fun p hp => ?_⟩
    · rcases Nat.eq_zero_or_pos l with h0 | h0
      · exact ⟨some x, c, 0, 0, by rw [hlen], fun h => absurd h (by rw [hlen]; omega), fun i hi => absurd hi (by rw [hlen]; omega)⟩
      · have hp := (hxs 0 h0).1
        have hx0 : (x.add (0 * 5)).add 0 = x.add 0 := by simp [Addr.add]
        rw [hx0] at hp
        obtain ⟨b, off, rfl, hb⟩ := addr_at hp
        refine ⟨some ⟨b, off, none⟩, c, b, off, by rw [hlen], fun _ => ⟨rfl, hb⟩, fun i hi => ?_⟩
        obtain ⟨q0, q1, q2, q3, q4, _⟩ := hxs i (by rw [← hlen]; exact hi)
        have a0 : ∀ j : Nat, ((⟨b, off, none⟩ : Addr).add (i * 5)).add j = ⟨b, off + i * 5 + j, none⟩ := fun j => by rw [addr_add, addr_add]
        rw [a0] at q0 q1 q2 q3 q4
        have e : ((List.range l).map xs)[i] = xs i := by simp
        rw [e]
        exact ⟨q0, q1, q2, q3, q4⟩
    · obtain ⟨i, hi, rfl⟩ := List.mem_map.1 hp
      exact (hxs i (List.mem_range.1 hi)).2.2.2.2.2
end
end Go.Proofs.Ytdkigbaodbkebaa.Nt
