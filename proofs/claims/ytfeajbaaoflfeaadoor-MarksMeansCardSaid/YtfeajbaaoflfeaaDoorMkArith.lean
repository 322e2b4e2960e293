/-
  Sums, products and quotients of marks, where they may be no number: there the answer's bits are open, as which it counts isn't. The walks of Share and Mean, the code's and the document's plain ones.
-/
import Derived.Test.YtfeajbaaoflfeaaDoorMkPut
import Derived.Laws.NewFold
import Derived.Deep.Draws
namespace Go.Proofs.YtfeajbaaoflfeaaDoor.Mk
open Go.RowKit

/-- A word where there is one; else any word that is no number. -/
def Rep (o : Option Nat) (b : Nat) : Prop := b < 18446744073709551616 ∧ match o with | some r => b = r | none => isN b = true
def canonO : Option Nat → Nat
  | some r => canon r
  | none => NM
theorem Rep.canon {o : Option Nat} {b : Nat} (h : Rep o b) : canon b = canonO o := by
  cases o with
  | none => rw [Mk.canon, if_pos h.2]; rfl
  | some r => rw [h.2]; rfl
def bopt (op : BinOp) : Option Nat → Option Nat → Option Nat
  | some a, some b => floatBits op .f64 a b
  | _, _ => none

def Plain (op : BinOp) : Prop := op = .add ∨ op = .mul ∨ op = .quo
theorem nan_datum {b : Nat} (h : isN b = true) : ∃ s t, Ieee.double.read b = .nan s t := by
  rw [← read_nan] at h
  cases e : Ieee.double.read b with
  | nan s t => exact ⟨s, t, rfl⟩
  | number s m i => rw [e] at h; cases h
  | infinity s => rw [e] at h; cases h
theorem bits_nan_l {op : BinOp} (ho : Plain op) {a b : Nat} (h : isN a = true) : floatBits op .f64 a b = none := by
  obtain ⟨s, t, e⟩ := nan_datum h
  rcases ho with rfl | rfl | rfl <;> simp only [floatBits, fmt, Ieee.Format.add, Ieee.Format.mul, Ieee.Format.div, e] <;> rfl
theorem bits_nan_r {op : BinOp} (ho : Plain op) {a b : Nat} (h : isN b = true) : floatBits op .f64 a b = none := by
  obtain ⟨s, t, e⟩ := nan_datum h
  rcases ho with rfl | rfl | rfl <;> simp only [floatBits, fmt, Ieee.Format.add, Ieee.Format.mul, Ieee.Format.div, e] <;> cases Ieee.double.read a <;> rfl

theorem nan_cut (a b t : Nat) : Rep none (Question.cut (.nanBits .f64 a b) t) := by
  unfold Rep isN Question.cut
  simp only [decide_eq_true_eq]
  have h1 : (2 : Nat) ^ 63 = 9223372036854775808 := by decide
  have h2 : (2 : Nat) ^ 52 - 1 = 4503599627370495 := by decide
  rw [h1, h2]
  have h3 := Nat.mod_lt (t / 2) (show 4503599627370495 > 0 by omega)
  have h4 : t % 2 < 2 := Nat.mod_lt _ (by omega)
  have h5 : (0x7ff0000000000000 : Nat) = 9218868437227405312 := by decide
  rw [h5]
  generalize t % 2 = u at *
  generalize t / 2 % 4503599627370495 = v at *
  obtain rfl | rfl : u = 0 ∨ u = 1 := by omega
  · omega
  · omega
theorem lt_of_bits {op : BinOp} {a b r : Nat} (h : floatBits op .f64 a b = some r) : r < 18446744073709551616 := by
  have := floatBits_wf h
  simpa [Lit.wf] using this

/-- What an operation gives, whatever the operands. -/
theorem op_run {op : BinOp} (ho : Plain op) (t : TypeId) {o1 o2 : Option Nat} {b1 b2 : Nat} (h1 : Rep o1 b1) (h2 : Rep o2 b2) (W : World) :
    ∃ b3 n, (binOp op t (.float .f64 b1) (.float .f64 b2)).run Tryd.prog W = .ok (.float .f64 b3) (W.drewN n) ∧ Rep (bopt op o1 o2) b3 := by
  have key : floatBits op .f64 b1 b2 = bopt op o1 o2 := by
    cases o1 with
    | none => rw [bits_nan_l ho h1.2]; rfl
    | some a =>
      cases o2 with
      | none => rw [bits_nan_r ho h2.2]; rfl
      | some b => rw [h1.2, h2.2]; rfl
  cases e : bopt op o1 o2 with
  | some r =>
    rw [e] at key
    exact ⟨r, 0, run_float_arith W op t .f64 b1 b2 r key, lt_of_bits key, rfl⟩
  | none =>
    rw [e] at key
    refine ⟨Question.cut (.nanBits .f64 b1 b2) (W.tape W.drawn (.nanBits .f64 b1 b2)), 1, ?_, nan_cut _ _ _⟩
    unfold floatBits at key
    rcases ho with rfl | rfl | rfl
    all_goals simp only at key
    all_goals simp [binOp, Op.floatArith, key, Question.forced]
    all_goals rfl

/-- A whole number as a word. -/
def fi (n : Int) : Nat := floatOfInt .f64 n
theorem fi_lt (n : Int) : fi n < 18446744073709551616 := by
  have := floatOfInt_wf .f64 n
  simpa [Lit.wf, fi] using this
theorem fi_rep (n : Int) : Rep (some (fi n)) (fi n) := ⟨fi_lt n, rfl⟩
theorem H_rep : Rep (some 4636737291354636288) 4636737291354636288 := ⟨by omega, rfl⟩

/-- Of a hundred. -/
def share (r a : Int) : Nat := if a < 1 ∨ 9007199254740992 < a ∨ r < 0 ∨ a < r then NM else canonO (bopt .quo (bopt .mul (some (fi r)) (some 4636737291354636288)) (some (fi a)))

/-- The world has drawn, and nothing else. -/
def Drew (w w' : World) : Prop := ∃ n, w' = w.drewN n
theorem Drew.refl (w : World) : Drew w w := ⟨0, rfl⟩
theorem Drew.trans {a b c : World} (h : Drew a b) (h' : Drew b c) : Drew a c := by
  obtain ⟨n, rfl⟩ := h
  obtain ⟨m, rfl⟩ := h'
  exact ⟨n + m, by simp [World.drewN, Nat.add_assoc]⟩
theorem Drew.below {w w' : World} (h : Drew w w') (B : Nat) : Below B w w' := by
  obtain ⟨n, rfl⟩ := h
  exact ⟨rfl, rfl, rfl, Nat.le_refl _, fun _ _ => rfl⟩

theorem share_out (r a : Int) (h : a < 1 ∨ 9007199254740992 < a ∨ r < 0 ∨ a < r) (w : World) :
    Calls Tryd.prog 28 #[.int .i64 r, .int .i64 a] w fun e w' => e = .returned (.float .f64 NM) ∧ w = w' := by
  by_cases h1 : a < 1
  · clear h
    go_enter Tryd.func28, Tryd.ntmps28
    go_wp2_with fail
    refine (none_any _).mono ?_
    rintro e w1 ⟨rfl, rfl⟩
    go_wp2
    go_ret
    exact ⟨rfl, rfl⟩
  · by_cases h2 : 9007199254740992 < a
    · clear h
      go_enter Tryd.func28, Tryd.ntmps28
      go_wp2_with fail
      refine (none_any _).mono ?_
      rintro e w1 ⟨rfl, rfl⟩
      go_wp2
      go_ret
      exact ⟨rfl, rfl⟩
    · by_cases h3 : r < 0
      · clear h
        go_enter Tryd.func28, Tryd.ntmps28
        go_wp2_with fail
        refine (none_any _).mono ?_
        rintro e w1 ⟨rfl, rfl⟩
        go_wp2
        go_ret
        exact ⟨rfl, rfl⟩
      · have h4 : a < r := by omega
        clear h
        go_enter Tryd.func28, Tryd.ntmps28
        go_wp2_with fail
        refine (none_any _).mono ?_
        rintro e w1 ⟨rfl, rfl⟩
        go_wp2
        go_ret
        exact ⟨rfl, rfl⟩

theorem share_in (r a : Int) (h1 : 1 ≤ a) (h2 : a ≤ 9007199254740992) (h3 : 0 ≤ r) (h4 : r ≤ a) (w : World) :
    Calls Tryd.prog 28 #[.int .i64 r, .int .i64 a] w fun e w' => e = .returned (.float .f64 (canonO (bopt .quo (bopt .mul (some (fi r)) (some 4636737291354636288)) (some (fi a))))) ∧ Drew w w' := by
  obtain ⟨p, n, hp, hpr⟩ := op_run (.inr (.inl rfl)) 24 (fi_rep r) H_rep w
  obtain ⟨q, m, hq, hqr⟩ := op_run (.inr (.inr rfl)) 24 hpr (fi_rep a) (w.drewN n)
  have K := Lib.hid (fun W => canon_any q hqr.1 W)
  rw [hqr.canon] at K
  generalize canonO (bopt .quo (bopt .mul (some (fi r)) (some 4636737291354636288)) (some (fi a))) = c at *
  unfold fi at hp hq
  clear hpr hqr
  go_enter Tryd.func28, Tryd.ntmps28
  go_wp2_with fail
  refine (K.out _).mono ?_
  rintro e w1 ⟨rfl, rfl⟩
  go_wp2
  go_ret
  exact ⟨rfl, _, rfl⟩


/-- Share, whatever the numbers. -/
theorem share_any (r a : Int) (w : World) : Calls Tryd.prog 28 #[.int .i64 r, .int .i64 a] w fun e w' => e = .returned (.float .f64 (share r a)) ∧ Drew w w' := by
  unfold share
  by_cases h : a < 1 ∨ 9007199254740992 < a ∨ r < 0 ∨ a < r
  · rw [if_pos h]; exact (share_out r a h w).mono fun _ _ ⟨he, hw⟩ => ⟨he, hw ▸ Drew.refl _⟩
  · rw [if_neg h]; exact share_in r a (by omega) (by omega) (by omega) (by omega) w

theorem rshare_out (r a : Int) (h : a < 1 ∨ 9007199254740992 < a ∨ r < 0 ∨ a < r) (w : World) :
    Calls Tryd.prog 29 #[.int .i64 r, .int .i64 a] w fun e w' => e = .returned (.float .f64 NM) ∧ w = w' := by
  by_cases h1 : a < 1
  · clear h
    go_enter Tryd.func29, Tryd.ntmps29
    go_wp2_with fail
    refine (rnone_any _).mono ?_
    rintro e w1 ⟨rfl, rfl⟩
    go_wp2
    go_ret
    exact ⟨rfl, rfl⟩
  · by_cases h2 : 9007199254740992 < a
    · clear h
      go_enter Tryd.func29, Tryd.ntmps29
      go_wp2_with fail
      refine (rnone_any _).mono ?_
      rintro e w1 ⟨rfl, rfl⟩
      go_wp2
      go_ret
      exact ⟨rfl, rfl⟩
    · by_cases h3 : r < 0
      · clear h
        go_enter Tryd.func29, Tryd.ntmps29
        go_wp2_with fail
        refine (rnone_any _).mono ?_
        rintro e w1 ⟨rfl, rfl⟩
        go_wp2
        go_ret
        exact ⟨rfl, rfl⟩
      · have h4 : a < r := by omega
        clear h
        go_enter Tryd.func29, Tryd.ntmps29
        go_wp2_with fail
        refine (rnone_any _).mono ?_
        rintro e w1 ⟨rfl, rfl⟩
        go_wp2
        go_ret
        exact ⟨rfl, rfl⟩

theorem rshare_in (r a : Int) (h1 : 1 ≤ a) (h2 : a ≤ 9007199254740992) (h3 : 0 ≤ r) (h4 : r ≤ a) (w : World) :
    Calls Tryd.prog 29 #[.int .i64 r, .int .i64 a] w fun e w' => e = .returned (.float .f64 (canonO (bopt .quo (bopt .mul (some (fi r)) (some 4636737291354636288)) (some (fi a))))) ∧ Drew w w' := by
  obtain ⟨p, n, hp, hpr⟩ := op_run (.inr (.inl rfl)) 24 (fi_rep r) H_rep w
  obtain ⟨q, m, hq, hqr⟩ := op_run (.inr (.inr rfl)) 24 hpr (fi_rep a) (w.drewN n)
  have K := Lib.hid (fun W => rcanon_any q hqr.1 W)
  rw [hqr.canon] at K
  generalize canonO (bopt .quo (bopt .mul (some (fi r)) (some 4636737291354636288)) (some (fi a))) = c at *
  unfold fi at hp hq
  clear hpr hqr
  go_enter Tryd.func29, Tryd.ntmps29
  go_wp2_with fail
  refine (K.out _).mono ?_
  rintro e w1 ⟨rfl, rfl⟩
  go_wp2
  go_ret
  exact ⟨rfl, _, rfl⟩


/-- Share, whatever the numbers. -/
theorem rshare_any (r a : Int) (w : World) : Calls Tryd.prog 29 #[.int .i64 r, .int .i64 a] w fun e w' => e = .returned (.float .f64 (share r a)) ∧ Drew w w' := by
  unfold share
  by_cases h : a < 1 ∨ 9007199254740992 < a ∨ r < 0 ∨ a < r
  · rw [if_pos h]; exact (rshare_out r a h w).mono fun _ _ ⟨he, hw⟩ => ⟨he, hw ▸ Drew.refl _⟩
  · rw [if_neg h]; exact rshare_in r a (by omega) (by omega) (by omega) (by omega) w

end Go.Proofs.YtfeajbaaoflfeaaDoor.Mk
