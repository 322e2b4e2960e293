/-
  Layer 23: how a raw message reads.
-/
import Derived.Test.YtfeelmblnkpfdaaDoorMsLg
import Derived.Deep.Slices
import Derived.Laws.IdiomArrays
namespace Go.Proofs.YtfeelmblnkpfdaaDoor.Ms
open Go.ChangeShapes Go.WideShapes
open Go.RowKit
set_option maxRecDepth 100000
set_option linter.unusedSimpArgs false
set_option linter.unusedVariables false

section
variable {H : Type} {enc : TypeId × Value → H} {w : World} {base : Nat} {held : Bool}
theorem trod_array10 {P : Program} {spare : Nat → Bool} {t e : TypeId} {fuel : Nat} {c0 c1 c2 c3 c4 c5 c6 c7 c8 c9 : Value} {x : DataW H × List MemPlace} (ht : P.underlying t = some (.array 10 e)) (hce : P.cellsOf e = 1)
    (h : DataW.trod enc P w base spare held fuel t [c0, c1, c2, c3, c4, c5, c6, c7, c8, c9] = some x) :
    ∃ n, ∃ y : Nat → DataW H × List MemPlace, DataW.trod enc P w base spare held n e [c0] = some (y 0) ∧ DataW.trod enc P w base spare held n e [c1] = some (y 1) ∧ DataW.trod enc P w base spare held n e [c2] = some (y 2) ∧ DataW.trod enc P w base spare held n e [c3] = some (y 3) ∧ DataW.trod enc P w base spare held n e [c4] = some (y 4) ∧ DataW.trod enc P w base spare held n e [c5] = some (y 5) ∧ DataW.trod enc P w base spare held n e [c6] = some (y 6) ∧ DataW.trod enc P w base spare held n e [c7] = some (y 7) ∧ DataW.trod enc P w base spare held n e [c8] = some (y 8) ∧ DataW.trod enc P w base spare held n e [c9] = some (y 9) := by
  cases fuel with
  | zero => simp [DataW.trod] at h
  | succ n =>
    unfold DataW.trod at h
    rw [ht] at h
    have r10 : List.range 10 = [0, 1, 2, 3, 4, 5, 6, 7, 8, 9] := rfl
    simp [r10, hce] at h
    obtain ⟨_, h⟩ := h
    cases h0 : DataW.trod enc P w base spare held n e [c0] with
    | none => simp [h0] at h
    | some y0 =>
      cases h1 : DataW.trod enc P w base spare held n e [c1] with
      | none => simp [h0, h1] at h
      | some y1 =>
        cases h2 : DataW.trod enc P w base spare held n e [c2] with
        | none => simp [h0, h1, h2] at h
        | some y2 =>
          cases h3 : DataW.trod enc P w base spare held n e [c3] with
          | none => simp [h0, h1, h2, h3] at h
          | some y3 =>
            cases h4 : DataW.trod enc P w base spare held n e [c4] with
            | none => simp [h0, h1, h2, h3, h4] at h
            | some y4 =>
              cases h5 : DataW.trod enc P w base spare held n e [c5] with
              | none => simp [h0, h1, h2, h3, h4, h5] at h
              | some y5 =>
                cases h6 : DataW.trod enc P w base spare held n e [c6] with
                | none => simp [h0, h1, h2, h3, h4, h5, h6] at h
                | some y6 =>
                  cases h7 : DataW.trod enc P w base spare held n e [c7] with
                  | none => simp [h0, h1, h2, h3, h4, h5, h6, h7] at h
                  | some y7 =>
                    cases h8 : DataW.trod enc P w base spare held n e [c8] with
                    | none => simp [h0, h1, h2, h3, h4, h5, h6, h7, h8] at h
                    | some y8 =>
                      cases h9 : DataW.trod enc P w base spare held n e [c9] with
                      | none => simp [h0, h1, h2, h3, h4, h5, h6, h7, h8, h9] at h
                      | some y9 =>
                        exact ⟨n, fun k => [y0, y1, y2, y3, y4, y5, y6, y7, y8, y9].getD k y0, (by first | rfl | exact h0), (by first | rfl | exact h1), (by first | rfl | exact h2), (by first | rfl | exact h3), (by first | rfl | exact h4), (by first | rfl | exact h5), (by first | rfl | exact h6), (by first | rfl | exact h7), (by first | rfl | exact h8), (by first | rfl | exact h9)⟩
theorem addr_at {x : Addr} {v : Value} (h : w.cell? (x.add 0) = some v) : ∃ b off, x = ⟨b, off, none⟩ ∧ b < w.heap.size := by
  obtain ⟨b, off, spot⟩ := x
  have hspot : spot = none := by simpa [Addr.add] using World.cell?_spot h
  subst hspot
  exact ⟨b, off, rfl, by simpa [Addr.add] using World.block_lt_of_cell? w _ h⟩
theorem addr_add (b off i : Nat) : (⟨b, off, none⟩ : Addr).add i = ⟨b, off + i, none⟩ := by unfold Addr.add; split <;> simp_all
theorem ent_of {fuel : Nat} {c0 c1 c2 : Value} {y : DataW H × List MemPlace} (h : DataW.trod enc Tryd.prog w base (fun _ => true) held fuel 52 [c0, c1, c2] = some y) : ∃ d : Ent, c0 = .int .i64 d.client ∧ c1 = .int .i64 d.number ∧ c2 = .string d.text := by
  obtain ⟨xs, m, _, _, _, hlen, hf⟩ := DataW.trod_struct Tryd.underlying52 h
  match xs, hlen with
  | [y0, y1, y2], _ =>
    have f0 := hf 0 _ rfl
    have f1 := hf 1 _ rfl
    have f2 := hf 2 _ rfl
    obtain ⟨k, h0, _, _⟩ := DataW.trod_int Tryd.underlying3 f0
    obtain ⟨a, h1, _, ha⟩ := DataW.trod_int Tryd.underlying3 f1
    obtain ⟨b, h2, _, hb⟩ := DataW.trod_string Tryd.underlying9 f2
    injection h0 with h0
    injection h1 with h1
    injection h2 with h2
    exact ⟨⟨k, a, b⟩, h0, h1, h2⟩
theorem ents_in {fuel : Nat} {v : Value} {y : DataW H × List MemPlace} (h : DataW.trod enc Tryd.prog w base (fun _ => true) held fuel 24 [v] = some y) : ∃ A n cap l, v = .slice A n cap ∧ Ents w A n l ∧ n ≤ 9223372036854775807 := by
  rcases Go.Deep.open_slice Tryd.underlying24 h with ⟨hcs, _⟩ | ⟨x, l, c, m, n, D, Pl, hcs, _, hl, hm, hmm, _, hel⟩
  · injection hcs with hcs
    subst hcs
    exact ⟨none, 0, 0, [], rfl, Ents.nil w, by omega⟩
  · injection hcs with hcs
    subst hcs
    have hml : l ≤ m := by rw [hmm]; split <;> omega
    unfold maxLen at hm
    have e2 : Tryd.prog.cellsOf 52 = 3 := by kernel_rfl
    have key : ∀ i, ∃ z : Ent, i < l → w.cell? ((x.add (i * 3)).add 0) = some (.int .i64 z.client) ∧ w.cell? ((x.add (i * 3)).add 1) = some (.int .i64 z.number) ∧ w.cell? ((x.add (i * 3)).add 2) = some (.string z.text) := fun i => by
      by_cases hi : i < l
      · obtain ⟨cs', hc, ht⟩ := hel i (by omega)
        rw [e2] at hc
        obtain ⟨_, hlen, hcell⟩ := World.cells?_some hc
        match cs', hlen with
        | [c0, c1, c2], _ =>
          obtain ⟨d, r0, r1, r2⟩ := ent_of ht
          refine ⟨d, fun _ => ⟨?_, ?_, ?_⟩⟩
          · rw [hcell 0 (by omega), ← r0]; rfl
          · rw [hcell 1 (by omega), ← r1]; rfl
          · rw [hcell 2 (by omega), ← r2]; rfl
      · exact ⟨⟨0, 0, ⟨#[]⟩⟩, fun h => absurd h hi⟩
    obtain ⟨xs, hxs⟩ := Classical.axiomOfChoice key
    have hlen : ((List.range l).map xs).length = l := by simp
    refine ⟨some x, l, c, (List.range l).map xs, rfl, ⟨hlen, fun h0 => ?_⟩, by omega⟩
    have hp := (hxs 0 h0).1
    have hx0 : (x.add (0 * 3)).add 0 = x.add 0 := by simp [Addr.add]
    rw [hx0] at hp
    obtain ⟨b, off, rfl, hb⟩ := addr_at hp
    refine ⟨b, off, rfl, hb, fun i hi => ?_⟩
    obtain ⟨q0, q1, q2⟩ := hxs i (by rw [← hlen]; exact hi)
    have a0 : ∀ j : Nat, ((⟨b, off, none⟩ : Addr).add (i * 3)).add j = ⟨b, off + i * 3 + j, none⟩ := fun j => by rw [addr_add, addr_add]
    rw [a0] at q0 q1 q2
    have e : ((List.range l).map xs)[i] = xs i := by simp
    rw [e]
    exact ⟨q0, q1, q2⟩
theorem ints_in {fuel : Nat} {v : Value} {y : DataW H × List MemPlace} (h : DataW.trod enc Tryd.prog w base (fun _ => true) held fuel 23 [v] = some y) : ∃ A n cap l, v = .slice A n cap ∧ Ints w A n l ∧ n ≤ 9223372036854775807 := by
  rcases open_ints (k := .i64) Tryd.underlying23 Tryd.underlying3 (by kernel_rfl) h with ⟨hcs, _⟩ | ⟨x, l, c, zs, hcs, _, hl, hm, hz, _, hcell, hwf⟩
  · injection hcs with hcs
    exact ⟨none, 0, 0, [], hcs, Ints.nil w, by omega⟩
  · injection hcs with hcs
    have hzl : l ≤ zs.length := by rw [hz]; split <;> omega
    unfold maxLen at hm
    refine ⟨some x, l, c, zs.take l, hcs, ⟨by rw [List.length_take]; omega, fun h0 => ?_⟩, by omega⟩
    obtain ⟨b, off, rfl, hb⟩ := addr_at (hcell 0 (by omega))
    refine ⟨b, off, rfl, hb, fun i hi => ?_⟩
    rw [← addr_add, hcell i (by omega)]
    simp only [List.getD_eq_getElem?_getD, List.getElem?_take_of_lt hi]
theorem raw_in {fuel : Nat} {c0 c1 c2 c3 c4 c5 c6 c7 c8 c9 c10 c11 c12 c13 c14 c15 : Value} {y : DataW H × List MemPlace} (h : DataW.trod enc Tryd.prog w base (fun _ => true) held fuel 26 [c0, c1, c2, c3, c4, c5, c6, c7, c8, c9, c10, c11, c12, c13, c14, c15] = some y) :
    ∃ m : Msg, RawAt w m (.agg #[c0, c1, c2, c3, c4, c5, c6, c7, c8, c9, c10, c11, c12, c13, c14, c15]) ∧ Short m := by
  obtain ⟨xs, mm, _, _, _, hlen, hf⟩ := DataW.trod_struct Tryd.underlying26 h
  match xs, hlen with
  | [y0, y1, y2, y3, y4, y5, y6], _ =>
    have f0 := hf 0 _ rfl
    have f1 := hf 1 _ rfl
    have f2 := hf 2 _ rfl
    have f3 := hf 3 _ rfl
    have f4 := hf 4 _ rfl
    have f5 := hf 5 _ rfl
    have f6 := hf 6 _ rfl
    simp only [List.getElem?_cons_zero, List.getElem?_cons_succ] at f0 f1 f2 f3 f4 f5 f6
    obtain ⟨k, h0, _, _⟩ := DataW.trod_int Tryd.underlying3 f0
    obtain ⟨n', y, g0, g1, g2, g3, g4, g5, g6, g7, g8, g9⟩ := trod_array10 Tryd.underlying22 (by kernel_rfl) f1
    obtain ⟨i0, k0, _, _⟩ := DataW.trod_int Tryd.underlying3 g0
    injection k0 with k0
    obtain ⟨i1, k1, _, _⟩ := DataW.trod_int Tryd.underlying3 g1
    injection k1 with k1
    obtain ⟨i2, k2, _, _⟩ := DataW.trod_int Tryd.underlying3 g2
    injection k2 with k2
    obtain ⟨i3, k3, _, _⟩ := DataW.trod_int Tryd.underlying3 g3
    injection k3 with k3
    obtain ⟨i4, k4, _, _⟩ := DataW.trod_int Tryd.underlying3 g4
    injection k4 with k4
    obtain ⟨i5, k5, _, _⟩ := DataW.trod_int Tryd.underlying3 g5
    injection k5 with k5
    obtain ⟨i6, k6, _, _⟩ := DataW.trod_int Tryd.underlying3 g6
    injection k6 with k6
    obtain ⟨i7, k7, _, _⟩ := DataW.trod_int Tryd.underlying3 g7
    injection k7 with k7
    obtain ⟨i8, k8, _, _⟩ := DataW.trod_int Tryd.underlying3 g8
    injection k8 with k8
    obtain ⟨i9, k9, _, _⟩ := DataW.trod_int Tryd.underlying3 g9
    injection k9 with k9
    obtain ⟨a, n, cap, l, h2, hs, hn⟩ := ints_in f2
    obtain ⟨t3, h3, _, z3⟩ := DataW.trod_string Tryd.underlying9 f3
    obtain ⟨t4, h4, _⟩ := DataW.trod_bool Tryd.underlying4 f4
    obtain ⟨t5, h5, _, z5⟩ := DataW.trod_string Tryd.underlying9 f5
    obtain ⟨b, nn, cap2, es, h6, he, hen⟩ := ents_in f6
    injection h0 with h0
    injection h3 with h3
    injection h4 with h4
    injection h5 with h5
    subst h0 h2 h3 h4 h5 h6 k0 k1 k2 k3 k4 k5 k6 k7 k8 k9
    unfold maxLen at z3 z5
    refine ⟨⟨k, i0, i1, l, i2, i3, i4, i5, i6, i7, i8, t3, t4, i9, t5, es⟩, ⟨a, cap, b, cap2, ?_, ?_, ?_⟩, ⟨z3, z5, ?_, ?_⟩⟩
    · unfold cellsR; dsimp only; rw [hs.1, he.1]
    · dsimp only; rw [hs.1]; exact hs
    · dsimp only; rw [he.1]; exact he
    · show l.length ≤ _; rw [hs.1]; exact hn
    · show es.length ≤ _; rw [he.1]; exact hen
end
theorem arr16 : ∀ cs : Array Value, cs.size = 16 → ∃ c0 c1 c2 c3 c4 c5 c6 c7 c8 c9 c10 c11 c12 c13 c14 c15, cs = #[c0, c1, c2, c3, c4, c5, c6, c7, c8, c9, c10, c11, c12, c13, c14, c15]
  | ⟨[c0, c1, c2, c3, c4, c5, c6, c7, c8, c9, c10, c11, c12, c13, c14, c15]⟩, _ => ⟨c0, c1, c2, c3, c4, c5, c6, c7, c8, c9, c10, c11, c12, c13, c14, c15, rfl⟩
theorem raw_cells : Tryd.prog.cellsOf 26 = 16 := by kernel_rfl
theorem raw_arg {W : World} {base : Nat} {v : Value} (h : Value.okWide Tryd.prog W .any base 26 v) : ∃ c0 c1 c2 c3 c4 c5 c6 c7 c8 c9 c10 c11 c12 c13 c14 c15, v = .agg #[c0, c1, c2, c3, c4, c5, c6, c7, c8, c9, c10, c11, c12, c13, c14, c15] := by
  obtain ⟨cs, rfl, hcs⟩ := okWide_struct Tryd.underlying26 h
  rw [raw_cells] at hcs
  obtain ⟨c0, c1, c2, c3, c4, c5, c6, c7, c8, c9, c10, c11, c12, c13, c14, c15, rfl⟩ := arr16 cs hcs
  exact ⟨c0, c1, c2, c3, c4, c5, c6, c7, c8, c9, c10, c11, c12, c13, c14, c15, rfl⟩
end Go.Proofs.YtfeelmblnkpfdaaDoor.Ms
