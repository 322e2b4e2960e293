/-
  Layer 21: how a raw answer reads; the sizes of what replies makes of it.
-/
import Derived.Test.YtbkfbejbloclgaaCmRp
import Derived.Test.YtbkfbejbloclgaaCmRq
import Derived.Test.YtbkfbejbloclgaaCmL
import Derived.ChangeSlices
namespace Go.Proofs.Ytbkfbejbloclgaa.Cm
open Go.ChangeShapes Go.WideShapes
open Go.RowKit
open Oct (pb bs Strs rInt rText rTexts rErr rEnd At Sep Gives strV OutSt OSep app eInt eText eTexts eLen rng)
open Lx (goodB)
open Gn (Asks)
open Mk (gm canon)
set_option maxRecDepth 100000
set_option linter.unusedSimpArgs false
set_option linter.unusedVariables false

section
variable {H : Type} {enc : TypeId × Value → H} {w : World} {base : Nat} {held : Bool}
theorem u64s_of {fuel : Nat} {v : Value} {y : DataW H × List MemPlace} (h : DataW.trod enc Try.prog w base (fun _ => true) held fuel 41 [v] = some y) :
    ∃ a len cap ms, v = .slice a len cap ∧ U64s w a len ms ∧ len ≤ 9223372036854775807 := by
  rcases open_ints (k := .u64) Try.underlying41 Try.underlying91 (by kernel_rfl) h with ⟨hcs, _⟩ | ⟨x, l, c, zs, hcs, _, hl, hm, hz, _, hcell, hwf⟩
  · injection hcs with hcs
    exact ⟨none, 0, 0, [], hcs, ⟨rfl, (fun x hx => nomatch hx), fun h => absurd h (by omega)⟩, by omega⟩
  · injection hcs with hcs
    have hzl : l ≤ zs.length := by rw [hz]; split <;> omega
    unfold maxLen at hm
    have hrange : ∀ z ∈ zs, 0 ≤ z ∧ z < 18446744073709551616 := fun z hz => by
      have := hwf z hz
      have : IntKind.u64.min ≤ z ∧ z ≤ IntKind.u64.max := by simpa [Lit.wf] using this
      have e1 : IntKind.u64.min = 0 := by decide
      have e2 : IntKind.u64.max = 18446744073709551615 := by decide
      omega
    refine ⟨some x, l, c, (zs.take l).map Int.toNat, hcs, ⟨by rw [List.length_map, List.length_take]; omega, fun n hn => ?_, fun h0 => ?_⟩, by omega⟩
    · obtain ⟨z, hz1, rfl⟩ := List.mem_map.1 hn
      have := hrange z (List.mem_of_mem_take hz1)
      omega
    · obtain ⟨b, off, rfl, hb⟩ := addr_at (hcell 0 (by omega))
      refine ⟨b, off, rfl, hb, fun i hi => ?_⟩
      rw [← addr_add, hcell i (by omega)]
      have hm2 : zs[i]'(by omega) ∈ zs := List.getElem_mem _
      have hr := hrange _ hm2
      simp only [List.getD_eq_getElem?_getD, List.getElem?_map, List.getElem?_take_of_lt hi, List.getElem?_eq_getElem (show i < zs.length by omega), Option.map_some, Option.getD_some]
      rw [Int.toNat_of_nonneg hr.1]
theorem ans_in {fuel : Nat} {c0 c1 c2 c3 c4 c5 c6 : Value} {y : DataW H × List MemPlace} (h : DataW.trod enc Try.prog w base (fun _ => true) held fuel 43 [c0, c1, c2, c3, c4, c5, c6] = some y) :
    ∃ c : Rep, AnsAt w c (.agg #[c0, c1, c2, c3, c4, c5, c6]) ∧ ShortR c := by
  obtain ⟨xs, m, _, _, _, hlen, hf⟩ := DataW.trod_struct Try.underlying43 h
  match xs, hlen with
  | [y0, y1, y2, y3, y4, y5, y6], _ =>
    have f0 := hf 0 _ rfl
    have f1 := hf 1 _ rfl
    have f2 := hf 2 _ rfl
    have f3 := hf 3 _ rfl
    have f4 := hf 4 _ rfl
    have f5 := hf 5 _ rfl
    have f6 := hf 6 _ rfl
    simp only [List.getElem?_cons_zero, List.getElem?_cons_succ] at f0 f1 f2 f3 f4 f5 f6
    obtain ⟨k0, h0, _, _⟩ := DataW.trod_int Try.underlying3 f0
    obtain ⟨k1, h1, _, _⟩ := DataW.trod_int Try.underlying3 f1
    obtain ⟨k2, h2, _, _⟩ := DataW.trod_int Try.underlying3 f2
    obtain ⟨k3, h3, _, _⟩ := DataW.trod_int Try.underlying3 f3
    obtain ⟨t4, h4, _, z4⟩ := DataW.trod_string Try.underlying9 f4
    obtain ⟨a, n, cap, ss, h5, hs, hn, hsz⟩ := strs_of f5
    obtain ⟨b, m, cap2, ms, h6, hu, hm⟩ := u64s_of f6
    injection h0 with h0
    injection h1 with h1
    injection h2 with h2
    injection h3 with h3
    injection h4 with h4
    subst h0 h1 h2 h3 h4 h5 h6
    unfold maxLen at z4 hsz
    refine ⟨⟨k0, k1, k2, k3, t4, ss, ms⟩, ⟨a, cap, b, cap2, ?_, ?_, ?_⟩, ⟨z4, ?_, fun s h => Nat.le_trans (hsz s h) (by decide), ?_⟩⟩
    · dsimp only; rw [hs.1, hu.1]
    · dsimp only; rw [hs.1]; exact hs
    · dsimp only; rw [hu.1]; exact hu
    · show ss.length ≤ _; rw [hs.1]; exact hn
    · show ms.length ≤ _; rw [hu.1]; exact hm
end
theorem arr7 : ∀ cs : Array Value, cs.size = 7 → ∃ c0 c1 c2 c3 c4 c5 c6, cs = #[c0, c1, c2, c3, c4, c5, c6]
  | ⟨[c0, c1, c2, c3, c4, c5, c6]⟩, _ => ⟨c0, c1, c2, c3, c4, c5, c6, rfl⟩
theorem ans_cells : Try.prog.cellsOf 43 = 7 := by kernel_rfl
theorem ans_arg {W : World} {base : Nat} {v : Value} (h : Value.okWide Try.prog W .any base 43 v) : ∃ c0 c1 c2 c3 c4 c5 c6, v = .agg #[c0, c1, c2, c3, c4, c5, c6] := by
  obtain ⟨cs, rfl, hcs⟩ := okWide_struct Try.underlying43 h
  rw [ans_cells] at hcs
  obtain ⟨c0, c1, c2, c3, c4, c5, c6, rfl⟩ := arr7 cs hcs
  exact ⟨c0, c1, c2, c3, c4, c5, c6, rfl⟩
/-- The sizes of a cut answer. -/
structure SmallR (r : Rep) : Prop where
  text : r.text.size ≤ 2000
  texts : r.texts.length ≤ 50
  each : ∀ s ∈ r.texts, s.size ≤ 500
  marks : r.marks.length ≤ 50
  low : ∀ b ∈ r.marks, b < 18446744073709551616
theorem cutS_size (s : ByteArray) (k : Nat) : (cutS s k).size ≤ k := by
  unfold cutS
  rw [ByteArray.size_extract]
  omega
theorem small_of {W : World} {r : Rep} {v : Value} (h : AnsAt W r v) : SmallR (repOf r) := by
  obtain ⟨a, cap, b, cap', _, _, hu⟩ := h
  refine ⟨cutS_size _ _, ?_, ?_, ?_, fun x hx => hu.2.1 x (List.mem_of_mem_take hx)⟩
  · show (((r.texts.take 50).map fun s => cutS s 500)).length ≤ 50
    rw [List.length_map, List.length_take]; omega
  · intro s hs
    obtain ⟨t, _, rfl⟩ := List.mem_map.1 hs
    exact cutS_size _ _
  · show (r.marks.take 50).length ≤ 50
    rw [List.length_take]; omega
theorem SmallR.fits {r : Rep} (h : SmallR r) : FitsR r := ⟨by have := h.text; omega, by have := h.texts; omega, by have := h.marks; omega, h.low⟩
theorem SmallR.can {r : Rep} (h : SmallR r) : FitsR (canR r) := ⟨by have := h.text; exact Nat.le_trans this (by decide), by have := h.texts; exact Nat.le_trans this (by decide), by have := h.marks; show (r.marks.map canon).length ≤ 65536; rw [List.length_map]; omega, fun b hb => by
  obtain ⟨x, hx, rfl⟩ := List.mem_map.1 hb
  exact Mk.canon_lt x (h.low x hx)⟩
theorem putR_small {r : Rep} (h : SmallR r) (h0 : farB r.code = false) (h1 : farB r.line = false) (h2 : farB r.col = false) (h3 : farB r.count = false) : putR r = qRep r := by
  have t := h.texts
  have m := h.marks
  have x := h.text
  unfold putR
  rw [if_neg (by omega), eRep_some r h0 h1 h2 h3 (by omega) (by omega) (fun s hs => by have := h.each s hs; omega) (by omega)]
  rfl
theorem putR_far {r : Rep} (h : SmallR r) (hf : farB r.code = true ∨ farB r.line = true ∨ farB r.col = true ∨ farB r.count = true) : putR r = [] := by
  have t := h.texts
  have m := h.marks
  unfold putR
  rw [if_neg (by omega), eRep_far r hf]
  rfl
theorem qRep_ne (r : Rep) (h0 : farB r.code = false) : qRep r ≠ [] := by
  have e : qRep r = pb r.code ++ (pb r.line ++ (pb r.col ++ (pb r.count ++ (qText r.text ++ (qTexts r.texts ++ (pb (r.marks.length : Int) ++ qMarks r.marks)))))) := by
    unfold qRep
    simp only [qTexts, qNums, List.getD_cons_zero, List.getD_cons_succ, List.nil_append, List.append_assoc]
  rw [e]
  intro h
  exact Oct.pb_ne r.code (notFar h0) (List.append_eq_nil_iff.1 h).1
theorem putR_len {r : Rep} (h : SmallR r) : (putR r).length ≤ 9223372036854775807 := by
  by_cases hf : farB r.code = true ∨ farB r.line = true ∨ farB r.col = true ∨ farB r.count = true
  · rw [putR_far h hf]; exact Nat.zero_le _
  · have h0 : farB r.code = false := by cases e : farB r.code with | false => rfl | true => exact absurd (.inl e) hf
    have h1 : farB r.line = false := by cases e : farB r.line with | false => rfl | true => exact absurd (.inr (.inl e)) hf
    have h2 : farB r.col = false := by cases e : farB r.col with | false => rfl | true => exact absurd (.inr (.inr (.inl e))) hf
    have h3 : farB r.count = false := by cases e : farB r.count with | false => rfl | true => exact absurd (.inr (.inr (.inr e))) hf
    rw [putR_small h h0 h1 h2 h3]
    have t := h.texts
    have m := h.marks
    have x := h.text
    have y1 := qNums_len [r.code, r.line, r.col, r.count] 4
    have y2 := qText_len r.text
    have y3 := qTexts_len r.texts 500 h.each
    have y4 := Oct.pb_len (r.marks.length : Int)
    have y5 := qStrs_len (r.marks.map mk8) 8 (fun s hs => by obtain ⟨b, _, rfl⟩ := List.mem_map.1 hs; rw [mk8_size]; decide)
    rw [List.length_map] at y5
    unfold qRep qMarks
    simp only [List.length_append]
    omega
/-- What comes of a cut answer that is put: nothing, or bytes that tell it again. -/
theorem put_got {r : Rep} (h : SmallR r) : putR r = [] ∨ (putR r ≠ [] ∧ getR (putR r) = if codeB r.code = true then (canR r, 0) else (zeroR, 2)) := by
  by_cases hf : farB r.code = true ∨ farB r.line = true ∨ farB r.col = true ∨ farB r.count = true
  · exact .inl (putR_far h hf)
  · have h0 : farB r.code = false := by cases e : farB r.code with | false => rfl | true => exact absurd (.inl e) hf
    have h1 : farB r.line = false := by cases e : farB r.line with | false => rfl | true => exact absurd (.inr (.inl e)) hf
    have h2 : farB r.col = false := by cases e : farB r.col with | false => rfl | true => exact absurd (.inr (.inr (.inl e))) hf
    have h3 : farB r.count = false := by cases e : farB r.count with | false => rfl | true => exact absurd (.inr (.inr (.inr e))) hf
    rw [putR_small h h0 h1 h2 h3]
    have t := h.texts
    have m := h.marks
    have x := h.text
    exact .inr ⟨qRep_ne r h0, getR_put r h0 h1 h2 h3 (by omega) (by omega) (fun s hs => by have := h.each s hs; omega) (by omega) h.low⟩
end Go.Proofs.Ytbkfbejbloclgaa.Cm
