/-
  The walk of lex.Good.
-/
import Derived.Test.YtppdemdjlhdfcaaLxName
namespace Go.Proofs.Ytppdemdjlhdfcaa.Lx
open Go.RowKit
set_option maxRecDepth 100000

/-- A good name. -/
def goodB (l : List UInt8) : Bool := decide (0 < l.length ∧ l.length ≤ 32 ∧ nsz l = l.length)

theorem good_any (s : ByteArray) (w : World) (hs : s.size ≤ 9223372036854775807) :
    Calls Try.prog 22 #[.string s] w fun e w' => e = .returned (.bool (goodB (bs s))) ∧ w = w' := by
  have hl : (bs s).length = s.size := rfl
  by_cases h0 : s.size = 0
  · have := empty_of h0
    subst this
    go_enter Try.func22, Try.ntmps22
    go_wp2
    go_ret
    exact ⟨rfl, rfl⟩
  · have he := nempty (s := s) (by omega)
    by_cases h1 : s.size ≤ 32
    · have K := Lib.hid (nameSize_any s w (by omega))
      obtain ⟨n, hn⟩ : ∃ n, n = nsz (bs s) := ⟨_, rfl⟩
      have hg : goodB (bs s) = ((n : Int) == (s.size : Int)) := by
        rw [goodB, hl, ← hn, Bool.eq_iff_iff]; simp; omega
      rw [hg]
      rw [← hn] at K
      clear hg hn hl
      go_enter Try.func22, Try.ntmps22
      go_wp2_with fail
      refine K.out.mono ?_
      rintro e w1 ⟨rfl, rfl⟩
      go_wp2
      go_ret
      exact ⟨rfl, rfl⟩
    · have hg : goodB (bs s) = false := by
        rw [goodB, hl, decide_eq_false_iff_not]; omega
      rw [hg]
      clear hl
      go_enter Try.func22, Try.ntmps22
      go_wp2
      go_ret
      exact ⟨rfl, rfl⟩

/-- All bytes go on a name. -/
theorem run_all (l : List UInt8) : run l = l.length ↔ ∀ c ∈ l, nameN c.toNat = true := by
  unfold run
  induction l with
  | nil => simp
  | cons a l ih =>
    by_cases h : nameN a.toNat = true
    · rw [List.takeWhile_cons, if_pos h]
      simp [h, ih]
    · rw [List.takeWhile_cons, if_neg h]
      simp [h]

theorem good_bad (s : ByteArray) (k : Nat) (hk : k < s.size) (h : (k = 0 ∧ letterN s[k].toNat = false) ∨ nameN s[k].toNat = false) : goodB (bs s) = false := by
  rw [goodB, decide_eq_false_iff_not]
  rintro ⟨_, _, h3⟩
  have hp : 0 < s.size := by omega
  rw [nsz_cons s hp] at h3
  have hl : (bs s).length = s.size := rfl
  split at h3
  · rename_i hlet
    rcases h with ⟨rfl, h⟩ | h
    · rw [h] at hlet; cases hlet
    · have := (run_all (bs s)).mp h3 (bs s)[k] (List.getElem_mem (by rw [hl]; exact hk))
      rw [show (bs s)[k] = s[k] from rfl, h] at this
      cases this
  · omega
theorem good_end (s : ByteArray) (h1 : ∀ j, (h : j < s.size) → nameN s[j].toNat = true) (h0 : ∀ h : 0 < s.size, letterN s[0].toNat = true) : goodB (bs s) = decide (0 < s.size ∧ s.size < 33) := by
  rw [goodB, show (bs s).length = s.size from rfl, Bool.eq_iff_iff]
  simp only [decide_eq_true_eq]
  by_cases hp : 0 < s.size
  · have : nsz (bs s) = s.size := by
      rw [nsz_cons s hp, if_pos (h0 hp)]
      exact run_is s s.size (Nat.le_refl _) (fun j h _ => h1 j h) (fun h => absurd h (by omega))
    omega
  · omega

end Go.Proofs.Ytppdemdjlhdfcaa.Lx
