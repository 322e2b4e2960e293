/-
  The walks of pair and escape.
-/
import Derived.Test.YtakihbjfkpebcaaLxEsc
namespace Go.Proofs.Ytakihbjfkpebcaa.Lx
open Go.RowKit
set_option maxRecDepth 100000

theorem rdig_no (l : List UInt8) (h : (rdig l).2.1 = false) : rdig l = (0, false, 0) := by
  cases l with
  | nil => rfl
  | cons c r =>
    simp only [rdig] at h ⊢
    cases hx : hexN c.toNat with
    | none => rfl
    | some x => rw [hx] at h; simp at h
theorem rdig_yes (l : List UInt8) (h : (rdig l).2.1 = true) : ∃ d, rdig l = (d, true, 1) ∧ d < 16 ∧ 0 < l.length := by
  cases l with
  | nil => simp [rdig] at h
  | cons c r =>
    simp only [rdig] at h ⊢
    cases hx : hexN c.toNat with
    | none => rw [hx] at h; simp at h
    | some x => exact ⟨x, rfl, hexN_lt hx, by simp⟩
theorem rdig_lt (l : List UInt8) : (rdig l).1 < 16 := by
  cases h : (rdig l).2.1
  · rw [rdig_no l h]; simp
  · obtain ⟨d, e, hd, _⟩ := rdig_yes l h; rw [e]; exact hd

theorem or_fin : ∀ a : Fin 16, ∀ b : Fin 16, bits .or .u8 ((a.val * 16 : Nat) : Int) ((b.val : Nat) : Int) = ((16 * a.val + b.val : Nat) : Int) := by decide +kernel
theorem or_u8 (a b : Nat) (ha : a < 16) (hb : b < 16) : bits .or .u8 ((a * 16 : Nat) : Int) (b : Int) = ((16 * a + b : Nat) : Int) := or_fin ⟨a, ha⟩ ⟨b, hb⟩

theorem cut_cut (t : ByteArray) (a b : Nat) : cut (cut t a) b = cut t (a + b) := by
  have : bs (cut (cut t a) b) = bs (cut t (a + b)) := by rw [bs_cut, bs_cut, bs_cut, List.drop_drop]
  apply ByteArray.ext
  apply Array.ext'
  exact this

set_option maxHeartbeats 1000000 in
theorem pair_any (g : Nat) (t : ByteArray) (line col : Nat) (w : World) (h : Sc w g t line col) (hc : col < 4611686018427387900) :
    Calls Try.prog 96 #[.pointer (some ⟨g, 0, none⟩)] w (Took w g t line col (.tuple #[.int .u8 ((rpair (bs t)).1 : Nat), .bool (rpair (bs t)).2.1]) (rpair (bs t)).2.2) := by
  have K1 := Lib.hid (digit_any g t line col w h (by omega))
  cases hp : (rdig (bs t)).2.1
  · have e := rdig_no _ hp
    rw [show rpair (bs t) = (0, false, 0) from by unfold rpair; rw [if_neg (by rw [hp]; simp)]]
    rw [e] at K1
    clear h hp e
    go_enter Try.func96, Try.ntmps96
    go_wp2_with fail
    refine K1.out.mono ?_
    rintro e w1 ⟨rfl, s1, s2⟩
    go_wp2
    go_ret2
    exact ⟨rfl, s1, s2⟩
  · obtain ⟨d, e, hd, hl⟩ := rdig_yes _ hp
    have hb1 : bs (cut t 1) = (bs t).drop 1 := bs_cut t 1
    rw [show rpair (bs t) = (16 * d + (rdig ((bs t).drop 1)).1, (rdig ((bs t).drop 1)).2.1, 1 + (rdig ((bs t).drop 1)).2.2) from by unfold rpair; rw [if_pos hp, e]]
    rw [← hb1]
    have hq := rdig_lt (bs (cut t 1))
    have K2 : ∀ W, Sc W g (cut t 1) line (col + 1) → Calls Try.prog 101 #[.pointer (some ⟨g, 0, none⟩)] W (Took W g (cut t 1) line (col + 1) (.tuple #[.int .u8 ((rdig (bs (cut t 1))).1 : Nat), .bool (rdig (bs (cut t 1))).2.1]) (rdig (bs (cut t 1))).2.2) := fun W hW => digit_any g (cut t 1) line (col + 1) W hW (by omega)
    obtain ⟨q, hqq⟩ : ∃ q, q = rdig (bs (cut t 1)) := ⟨_, rfl⟩
    rw [← hqq] at hq K2 ⊢
    have KK := Lib.hid K2
    rw [e] at K1
    have hor := or_u8 d q.1 hd hq
    clear h hp e hb1 hqq K2
    go_enter Try.func96, Try.ntmps96
    go_wp2_with fail
    refine K1.out.mono ?_
    rintro e w1 ⟨rfl, s1, s2⟩
    go_wp2_with fail
    refine (KK.out _ s1).mono ?_
    rintro e w2 ⟨rfl, s3, s4⟩
    go_wp2
    go_ret2
    refine ⟨?_, ?_, s2.next s4⟩
    · rw [← hor]
      rfl
    · rw [cut_cut] at s3
      rw [show col + (1 + q.2.2) = col + 1 + q.2.2 by omega]
      exact s3

end Go.Proofs.Ytakihbjfkpebcaa.Lx
