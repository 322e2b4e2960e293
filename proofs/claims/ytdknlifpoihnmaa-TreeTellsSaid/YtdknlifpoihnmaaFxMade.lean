/-
  What the law's made makes: a sound grammar, whatever the numbers; of another start it is sound just if there is such a nonterminal.
-/
import Derived.Test.YtdknlifpoihnmaaFxSound
import Derived.Test.YtdknlifpoihnmaaFxOwn
namespace Go.Proofs.Ytdknlifpoihnmaa.Fx
open Go.RowKit
set_option maxRecDepth 100000

/-- A text of one letter. -/
def letter (c i : Nat) : ByteArray := ⟨#[UInt8.ofNat (c + i)]⟩
structure Made (g : PG) : Prop where
  names : g.names = (List.range g.names.length).map (letter 65)
  terms : g.terms = (List.range g.terms.length).map (letter 97)
  few : 1 ≤ g.names.length ∧ g.names.length ≤ 8 ∧ g.terms.length ≤ 3 ∧ g.prods.length ≤ 192
  rules : g.rules = g.names.length
  start : 0 ≤ g.start ∧ g.start < g.names.length
  left : ∀ p ∈ g.prods, 0 ≤ p.left ∧ p.left < g.names.length
  short : ∀ p ∈ g.prods, p.right.length ≤ 6
  known : ∀ p ∈ g.prods, ∀ s ∈ p.right, -(g.terms.length : Int) ≤ s ∧ s < g.names.length
  order : sortedB g.prods = true
theorem letters_distinct : ∀ n, n ≤ 8 → distinctB ((List.range n).map (letter 65)) = true ∧ distinctB ((List.range n).map (letter 97)) = true
  | 0, _ => ⟨by kernel_rfl, by kernel_rfl⟩
  | 1, _ => ⟨by kernel_rfl, by kernel_rfl⟩
  | 2, _ => ⟨by kernel_rfl, by kernel_rfl⟩
  | 3, _ => ⟨by kernel_rfl, by kernel_rfl⟩
  | 4, _ => ⟨by kernel_rfl, by kernel_rfl⟩
  | 5, _ => ⟨by kernel_rfl, by kernel_rfl⟩
  | 6, _ => ⟨by kernel_rfl, by kernel_rfl⟩
  | 7, _ => ⟨by kernel_rfl, by kernel_rfl⟩
  | 8, _ => ⟨by kernel_rfl, by kernel_rfl⟩
  | n + 9, h => absurd h (by omega)
theorem letter_size (c i : Nat) : (letter c i).size = 1 := rfl
theorem Made.text {g : PG} (h : Made g) (s : ByteArray) (hs : s ∈ g.names ∨ s ∈ g.terms) : s.size = 1 := by
  rcases hs with hs | hs
  · rw [h.names] at hs; obtain ⟨i, _, rfl⟩ := List.mem_map.1 hs; rfl
  · rw [h.terms] at hs; obtain ⟨i, _, rfl⟩ := List.mem_map.1 hs; rfl
/-- The same with another start. -/
def PG.from_ (g : PG) (s : Int) : PG := { g with start := s }
theorem Made.fits {g : PG} (h : Made g) (s : Int) : (g.from_ s).Fits := by
  obtain ⟨h1, h2, h3, h4⟩ := h.few
  refine ⟨⟨?_, ?_, ?_⟩, fun t ht => ?_, fun t ht => ?_, fun p hp => ?_⟩
  · show g.names.length ≤ _; omega
  · show g.terms.length ≤ _; omega
  · show g.prods.length ≤ _; omega
  · rw [h.text t (.inl ht)]; decide
  · rw [h.text t (.inr ht)]; decide
  · have := h.short p hp; omega
theorem Made.sound {g : PG} (h : Made g) (s : Int) : soundB (g.from_ s) = decide (0 ≤ s ∧ s < g.names.length) := by
  obtain ⟨h1, h2, h3, h4⟩ := h.few
  have e1 : fewB (g.from_ s) = true := by
    unfold fewB
    rw [decide_eq_true_iff]
    show g.names.length ≤ 256 ∧ g.terms.length ≤ 256 ∧ g.prods.length ≤ 256
    omega
  have e2 : decide (0 ≤ (g.from_ s).rules) = true := by
    rw [decide_eq_true_iff]; show 0 ≤ g.rules; have := h.rules; omega
  have e3 : decide ((g.from_ s).rules ≤ ((g.from_ s).names.length : Int)) = true := by
    rw [decide_eq_true_iff]; show g.rules ≤ g.names.length; have := h.rules; omega
  have e4 : distinctB (g.from_ s).names = true := by
    show distinctB g.names = true
    rw [h.names]; exact (letters_distinct _ (by omega)).1
  have e5 : distinctB (g.from_ s).terms = true := by
    show distinctB g.terms = true
    rw [h.terms]; exact (letters_distinct _ (by omega)).2
  have e6 : (g.from_ s).terms.any longB = false := by
    rw [List.any_eq_false]
    intro t ht
    have : t.size = 1 := h.text t (.inr ht)
    unfold longB
    rw [this]
    decide
  have e7 : (g.from_ s).prods.any (wrongB (g.from_ s)) = false := by
    rw [List.any_eq_false]
    intro p hp
    have hp : p ∈ g.prods := hp
    have a := h.left p hp
    have b := h.short p hp
    have c := h.known p hp
    have f1 : ntB (g.from_ s) p.left = true := by unfold ntB; rw [decide_eq_true_iff]; exact a
    have f2 : p.right.any (missB (g.from_ s)) = false := by
      rw [List.any_eq_false]
      intro x hx
      have := c x hx
      unfold missB
      rw [decide_eq_true_iff]
      show ¬ (x < -(g.terms.length : Int) ∨ (g.names.length : Int) ≤ x)
      omega
    unfold wrongB
    rw [f1, f2, decide_eq_false (by omega)]
    decide
  have e8 : sortedB (g.from_ s).prods = true := h.order
  unfold soundB
  rw [e1, e2, e3, e4, e5, e6, e7, e8]
  have e9 : ntB (g.from_ s) (g.from_ s).start = decide (0 ≤ s ∧ s < g.names.length) := rfl
  rw [e9]
  generalize decide (0 ≤ s ∧ s < (g.names.length : Int)) = b
  cases b <;> rfl
end Go.Proofs.Ytdknlifpoihnmaa.Fx
