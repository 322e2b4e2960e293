/-
  Layer 14: a grown tree's text, and what a made grammar gives.
-/
import Derived.Test.YtjlppffkacimoaaTrGr
import Derived.Test.YtjlppffkacimoaaTrK
import Derived.Test.YtjlppffkacimoaaFxMade
namespace Go.Proofs.Ytjlppffkacimoaa.Tr
open Go.RowKit
open Fx (Prd PG Made soundB)
set_option maxRecDepth 100000
set_option linter.unusedSimpArgs false
set_option linter.unusedVariables false

theorem term_is {g : PG} (h : Made g) (k : Nat) : termT g k = ⟨#[]⟩ ∨ ∃ i, i < 3 ∧ termT g k = Fx.letter 97 i := by
  unfold termT
  rw [List.getD_eq_getElem?_getD]
  rcases Nat.lt_or_ge k g.terms.length with h0 | h0
  · right
    rw [List.getElem?_eq_getElem h0]
    have h3 := h.few.2.2.1
    refine ⟨k, by omega, ?_⟩
    have e : g.terms[k] = ((List.range g.terms.length).map (Fx.letter 97))[k]'(by simpa using h0) := by
      have := h.terms
      simp only [← this]
    simp [e]
  · left
    rw [List.getElem?_eq_none h0]; rfl
theorem quo_len {g : PG} (h : Made g) (k : Nat) : 0 < (quoT (termT g k)).length ∧ (quoT (termT g k)).length ≤ 6 := by
  rcases term_is h k with e | ⟨i, hi, e⟩
  · rw [e]; decide +kernel
  · rw [e]
    match i, hi with
    | 0, _ => decide +kernel
    | 1, _ => decide +kernel
    | 2, _ => decide +kernel
theorem name_len {g : PG} (h : Made g) (n : Int) : (nameT g n).data.toList.length ≤ 1 := by
  unfold nameT
  rw [List.getD_eq_getElem?_getD]
  rcases Nat.lt_or_ge (leftT g n).toNat g.names.length with h0 | h0
  · rw [List.getElem?_eq_getElem h0]
    have := h.text _ (.inl (List.getElem_mem h0))
    have e : (g.names[(leftT g n).toNat]).size = (g.names[(leftT g n).toNat]).data.toList.length := rfl
    show (g.names[(leftT g n).toNat]).data.toList.length ≤ 1
    omega
  · rw [List.getElem?_eq_none h0]
    exact Nat.zero_le _
mutual
theorem text_len {g : PG} (h : Made g) : ∀ t : Tr, 0 < (textT g t).length ∧ (textT g t).length + 1 ≤ 9 * nodesT t
  | .mk n l => by
    rw [textT, nodesT]
    split
    · have := quo_len h (-1 - n).toNat
      omega
    · have h1 := name_len h n
      have h2 := texts_len h l
      simp only [List.length_cons, List.length_append, List.length_nil]
      omega
theorem texts_len {g : PG} (h : Made g) : ∀ l : List Tr, (textL g l).length ≤ 9 * nodesL l
  | [] => by simp [textL]
  | a :: r => by
    rw [textL, nodesL, List.length_cons, List.length_append]
    have := text_len h a
    have := texts_len h r
    have := nodes_pos a
    omega
end
theorem made_few {g : PG} (h : Made g) : g.prods.length ≤ 192 ∧ g.terms.length ≤ 3 ∧ Sides g ∧ Few g ∧ Lefts g ∧ Fit g ∧ Wr g := by
  obtain ⟨h1, h2, h3, h4⟩ := h.few
  refine ⟨h4, h3, ⟨fun p hp => by have := h.short p hp; omega, fun p hp y hy => (h.known p hp y hy).1⟩, ⟨by omega, by omega⟩, fun p hp => (h.left p hp).1, ⟨by omega, by omega⟩, ⟨⟨by omega, by omega⟩, by omega, h.left, fun s hs => by have := h.text s (.inr hs); omega⟩⟩
mutual
theorem yield_low {g : PG} : ∀ t : Tr, fitsT g t = true → ∀ y ∈ yieldT t, y < (g.terms.length : Int)
  | .mk n l, h => by
    obtain ⟨h1, h2⟩ := fits_at h
    rw [yieldT]
    split
    · rename_i hn
      intro y hy
      rw [List.mem_singleton] at hy
      unfold rootT at h1
      rw [if_pos hn] at h1
      have : -(g.terms.length : Int) ≤ n := by simpa using h1
      omega
    · exact yields_low l _ h2
theorem yields_low {g : PG} : ∀ (l : List Tr) (ss : List Int), fitsL g l ss = true → ∀ y ∈ yieldL l, y < (g.terms.length : Int)
  | [], _, _ => by simp [yieldL]
  | a :: r, [], h => by rw [fitsL] at h; cases h
  | a :: r, s :: ss, h => by
    obtain ⟨_, h2, h3⟩ := fits_split h
    intro y hy
    rw [yieldL] at hy
    rcases List.mem_append.1 hy with hy | hy
    · exact yield_low a h2 y hy
    · exact yields_low r ss h3 y hy
end
end Go.Proofs.Ytjlppffkacimoaa.Tr
