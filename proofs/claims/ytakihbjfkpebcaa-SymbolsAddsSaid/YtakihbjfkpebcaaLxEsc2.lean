/-
  The walk of escape.
-/
import Derived.Test.YtakihbjfkpebcaaLxPair
namespace Go.Proofs.Ytakihbjfkpebcaa.Lx
open Go.RowKit
set_option maxRecDepth 100000

/-- What stands behind an escape's first byte: the byte that it means, whether it is one, how many bytes are taken. -/
def resc : List UInt8 → Nat × Bool × Nat
  | [] => (0, false, 0)
  | c :: r => if c.toNat = 92 ∨ c.toNat = 39 ∨ c.toNat = 34 then (c.toNat, true, 1) else if c.toNat = 110 then (10, true, 1) else if c.toNat = 116 then (9, true, 1)
    else if c.toNat = 120 then ((rpair r).1, (rpair r).2.1, 1 + (rpair r).2.2) else (0, false, 0)

theorem resc_cons (t : ByteArray) (h : 0 < t.size) : resc (bs t) = if t[0].toNat = 92 ∨ t[0].toNat = 39 ∨ t[0].toNat = 34 then (t[0].toNat, true, 1) else if t[0].toNat = 110 then (10, true, 1) else if t[0].toNat = 116 then (9, true, 1)
    else if t[0].toNat = 120 then ((rpair (bs (cut t 1))).1, (rpair (bs (cut t 1))).2.1, 1 + (rpair (bs (cut t 1))).2.2) else (0, false, 0) := by
  rw [bs_cut]
  have : ∀ (l : List UInt8) (h : 0 < l.length), resc l = if l[0].toNat = 92 ∨ l[0].toNat = 39 ∨ l[0].toNat = 34 then (l[0].toNat, true, 1) else if l[0].toNat = 110 then (10, true, 1) else if l[0].toNat = 116 then (9, true, 1)
    else if l[0].toNat = 120 then ((rpair (l.drop 1)).1, (rpair (l.drop 1)).2.1, 1 + (rpair (l.drop 1)).2.2) else (0, false, 0) := fun l h => by
    cases l with
    | nil => exact absurd h (by simp)
    | cons a l => rfl
  exact this (bs t) h

set_option maxHeartbeats 2000000 in
theorem escape_any (g : Nat) (t : ByteArray) (line col : Nat) (w : World) (h : Sc w g t line col) (hc : col < 4611686018427387800) :
    Calls Try.prog 85 #[.pointer (some ⟨g, 0, none⟩)] w (Took w g t line col (.tuple #[.int .u8 ((resc (bs t)).1 : Nat), .bool (resc (bs t)).2.1]) (resc (bs t)).2.2) := by
  have c0 : w.cell? ⟨g, 0, none⟩ = some (.string t) := cell_of_row w g 0 _ _ (0, 0) h
  by_cases h0 : t.size = 0
  · have := empty_of h0
    subst this
    have H := Lib.hid h
    clear h
    go_enter Try.func85, Try.ntmps85
    go_wp2
    go_ret2
    exact ⟨rfl, by rw [show (resc (bs ⟨#[]⟩)).2.2 = 0 from rfl, cut_zero]; exact H.out, Sep.refl _ _ _⟩
  · have hp : 0 < t.size := by omega
    have he := nempty hp
    rw [resc_cons t hp]
    have KT := Lib.hid (take_any g t line col 1 w h (by omega) (by omega))
    have KP : ∀ W, Sc W g (cut t 1) line (col + 1) → Calls Try.prog 96 #[.pointer (some ⟨g, 0, none⟩)] W (Took W g (cut t 1) line (col + 1) (.tuple #[.int .u8 ((rpair (bs (cut t 1))).1 : Nat), .bool (rpair (bs (cut t 1))).2.1]) (rpair (bs (cut t 1))).2.2) := fun W hW => pair_any g (cut t 1) line (col + 1) W hW (by omega)
    obtain ⟨q, hqq⟩ : ∃ q, q = rpair (bs (cut t 1)) := ⟨_, rfl⟩
    rw [← hqq] at KP ⊢
    clear hqq
    have KK := Lib.hid KP
    have H := Lib.hid h
    clear h KP
    by_cases h1 : t[0].toNat = 92 ∨ t[0].toNat = 39 ∨ t[0].toNat = 34
    · rw [if_pos h1]
      rcases h1 with h1 | h1 | h1
      all_goals
        go_enter Try.func85, Try.ntmps85
        go_wp2_with fail
        refine KT.out.mono ?_
        rintro e w1 ⟨rfl, s1, s2⟩
        go_wp2
        go_ret2
        exact ⟨by rw [h1]; rfl, s1, s2⟩
    · rw [if_neg h1]
      by_cases h2 : t[0].toNat = 110
      · rw [if_pos h2]
        clear h1
        go_enter Try.func85, Try.ntmps85
        go_wp2_with fail
        refine KT.out.mono ?_
        rintro e w1 ⟨rfl, s1, s2⟩
        go_wp2
        go_ret2
        exact ⟨rfl, s1, s2⟩
      · rw [if_neg h2]
        by_cases h3 : t[0].toNat = 116
        · rw [if_pos h3]
          clear h1 h2
          go_enter Try.func85, Try.ntmps85
          go_wp2_with fail
          refine KT.out.mono ?_
          rintro e w1 ⟨rfl, s1, s2⟩
          go_wp2
          go_ret2
          exact ⟨rfl, s1, s2⟩
        · rw [if_neg h3]
          by_cases h4 : t[0].toNat = 120
          · rw [if_pos h4]
            clear h1 h2 h3
            go_enter Try.func85, Try.ntmps85
            go_wp2_with fail
            refine KT.out.mono ?_
            rintro e w1 ⟨rfl, s1, s2⟩
            go_wp2_with fail
            refine (KK.out _ s1).mono ?_
            rintro e w2 ⟨rfl, s3, s4⟩
            go_wp2
            go_ret2
            refine ⟨rfl, ?_, s2.next s4⟩
            rw [cut_cut] at s3
            show Sc _ _ (cut t (1 + q.2.2)) _ (col + (1 + q.2.2))
            rw [show col + (1 + q.2.2) = col + 1 + q.2.2 by omega]
            exact s3
          · rw [if_neg h4]
            go_enter Try.func85, Try.ntmps85
            go_wp2
            go_ret2
            exact ⟨rfl, by show Sc _ _ (cut t 0) _ _; rw [cut_zero]; exact H.out, Sep.refl _ _ _⟩

end Go.Proofs.Ytakihbjfkpebcaa.Lx
