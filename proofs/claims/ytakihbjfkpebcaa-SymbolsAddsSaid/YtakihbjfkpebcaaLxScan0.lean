/-
  What a text's tokens are, in plain words.
-/
import Derived.Test.YtakihbjfkpebcaaLxSkip
namespace Go.Proofs.Ytakihbjfkpebcaa.Lx
open Go.RowKit
set_option maxRecDepth 100000

def quoteN (c : Nat) : Bool := decide (c = 39 ∨ c = 34)
def signN (c : Nat) : Bool := decide (c = 58 ∨ c = 124 ∨ c = 59 ∨ c = 40 ∨ c = 41 ∨ c = 91 ∨ c = 93 ∨ c = 123 ∨ c = 125 ∨ c = 42 ∨ c = 43 ∨ c = 63 ∨ c = 37)

structure Tk where
  kind : Nat
  text : List UInt8
  line : Nat
  col : Nat
def Tk.zero : Tk := ⟨0, [], 0, 0⟩

/-- The token that a text begins with, no blank ahead; what is wrong with it; how many bytes are taken. -/
def rtok : List UInt8 → Nat → Nat → Tk × (Nat × Nat × Nat) × Nat
  | [], l, c => (⟨4, [], l, c⟩, (0, 0, 0), 0)
  | b :: r, l, c =>
    if letterN b.toNat = true then
      if 32 < nsz (b :: r) then (.zero, (l, c, 6), nsz (b :: r)) else (⟨1, (b :: r).take (nsz (b :: r)), l, c⟩, (0, 0, 0), nsz (b :: r))
    else if quoteN b.toNat = true then
      match (rlit b (r.length + 1) r).1 with
      | none => (.zero, (l, c + 1 + (rlit b (r.length + 1) r).2, 2), 1 + (rlit b (r.length + 1) r).2)
      | some t => if t = [] then (.zero, (l, c, 2), 1 + (rlit b (r.length + 1) r).2) else if 16 < t.length then (.zero, (l, c, 6), 1 + (rlit b (r.length + 1) r).2) else (⟨2, t, l, c⟩, (0, 0, 0), 1 + (rlit b (r.length + 1) r).2)
    else if signN b.toNat = true then (⟨3, [b], l, c⟩, (0, 0, 0), 1)
    else (.zero, (l, c, 2), 0)

def pre (a : List Tk) (x : List Tk × (Nat × Nat × Nat)) : List Tk × (Nat × Nat × Nat) := if x.2.2.2 = 0 then (a ++ x.1, x.2) else ([], x.2)
theorem pre_nil (x : List Tk × (Nat × Nat × Nat)) (h : x.2.2.2 ≠ 0 → x.1 = []) : pre [] x = x := by
  unfold pre
  split
  · rfl
  · rename_i h0; rw [← h h0]
theorem pre_pre (a b : List Tk) (x : List Tk × (Nat × Nat × Nat)) : pre a (pre b x) = pre (a ++ b) x := by
  unfold pre
  split <;> rename_i h
  · simp
  · simp

/-- All tokens of a text, or what is wrong: with fuel. -/
def rscan : Nat → Bool → List UInt8 → Nat → Nat → List Tk × (Nat × Nat × Nat)
  | 0, _, _, _, _ => ([], (0, 0, 6))
  | f + 1, cm, s, l, c =>
    if (rtok (s.drop (rskip cm s l c).1) (rskip cm s l c).2.1 (rskip cm s l c).2.2).2.1.2.2 ≠ 0 then ([], (rtok (s.drop (rskip cm s l c).1) (rskip cm s l c).2.1 (rskip cm s l c).2.2).2.1)
    else if (rtok (s.drop (rskip cm s l c).1) (rskip cm s l c).2.1 (rskip cm s l c).2.2).1.kind = 4 then ([(rtok (s.drop (rskip cm s l c).1) (rskip cm s l c).2.1 (rskip cm s l c).2.2).1], (0, 0, 0))
    else pre [(rtok (s.drop (rskip cm s l c).1) (rskip cm s l c).2.1 (rskip cm s l c).2.2).1]
      (rscan f false ((s.drop (rskip cm s l c).1).drop (rtok (s.drop (rskip cm s l c).1) (rskip cm s l c).2.1 (rskip cm s l c).2.2).2.2) (rskip cm s l c).2.1 ((rskip cm s l c).2.2 + (rtok (s.drop (rskip cm s l c).1) (rskip cm s l c).2.1 (rskip cm s l c).2.2).2.2))

theorem run_pos {b : UInt8} {r : List UInt8} (h : nameN b.toNat = true) : 0 < run (b :: r) := by
  unfold run; rw [List.takeWhile_cons, if_pos h]; simp
theorem run_le (s : List UInt8) : run s ≤ s.length := by
  unfold run; exact List.takeWhile_prefix _ |>.length_le
theorem nsz_le (s : List UInt8) : nsz s ≤ s.length := by
  cases s with
  | nil => simp [nsz]
  | cons b r =>
    rw [nsz]
    split
    · exact run_le _
    · simp
theorem nsz_pos {b : UInt8} {r : List UInt8} (h : letterN b.toNat = true) : 0 < nsz (b :: r) := by
  rw [nsz, if_pos h]; exact run_pos (letter_name h)
theorem rlit_le (q : UInt8) : ∀ (f : Nat) (s : List UInt8), (rlit q f s).2 ≤ s.length
  | 0, s => by simp [rlit]
  | f + 1, [] => by simp [rlit]
  | f + 1, c :: r => by
    rw [rlit]
    have h1 := rlit_le q f r
    have h2 := rlit_le q f (r.drop (resc r).2.2)
    have h3 := resc_le r
    rw [List.length_drop] at h2
    split
    · simp
    · split
      · simp
      · split
        · split
          · simp only [List.length_cons]; omega
          · simp only [List.length_cons]; omega
        · simp only [List.length_cons]; omega

theorem rtok_le (s : List UInt8) (l c : Nat) : (rtok s l c).2.2 ≤ s.length := by
  cases s with
  | nil => simp [rtok]
  | cons b r =>
    rw [rtok]
    have h1 := nsz_le (b :: r)
    have h2 := rlit_le b (r.length + 1) r
    split
    · split
      · exact h1
      · exact h1
    · split
      · split
        · simp only [List.length_cons]; omega
        · split
          · simp only [List.length_cons]; omega
          · split
            · simp only [List.length_cons]; omega
            · simp only [List.length_cons]; omega
      · split
        · simp
        · simp
theorem rtok_pos (s : List UInt8) (l c : Nat) (h0 : (rtok s l c).2.1.2.2 = 0) (h4 : (rtok s l c).1.kind ≠ 4) : 0 < (rtok s l c).2.2 := by
  cases s with
  | nil => simp [rtok] at h4
  | cons b r =>
    rw [rtok] at h0 h4 ⊢
    split
    · rename_i hl
      have := nsz_pos (r := r) hl
      split
      · exact this
      · exact this
    · rename_i hl
      rw [if_neg hl] at h0
      split
      · rename_i hq
        split
        · simp only; omega
        · split
          · simp only; omega
          · split
            · simp only; omega
            · simp only; omega
      · rename_i hq
        rw [if_neg hq] at h0
        split
        · simp
        · rename_i hs
          rw [if_neg hs] at h0
          simp at h0

theorem rscan_fuel : ∀ (f g : Nat) (cm : Bool) (s : List UInt8) (l c : Nat), s.length < f → s.length < g → rscan f cm s l c = rscan g cm s l c
  | 0, _, _, _, _, _, h, _ => absurd h (by omega)
  | _ + 1, 0, _, _, _, _, _, h => absurd h (by omega)
  | f + 1, g + 1, cm, s, l, c, hf, hg => by
    rw [rscan, rscan]
    split
    · rfl
    · rename_i h0
      split
      · rfl
      · rename_i h4
        have hp := rtok_pos _ _ _ (by simpa using h0) h4
        have hle := rtok_le (s.drop (rskip cm s l c).1) (rskip cm s l c).2.1 (rskip cm s l c).2.2
        rw [List.length_drop] at hle
        rw [rscan_fuel f g]
        · rw [List.length_drop, List.length_drop]; omega
        · rw [List.length_drop, List.length_drop]; omega

/-- All tokens of a text, or what is wrong, from a place on. -/
def scanG (cm : Bool) (s : List UInt8) (l c : Nat) : List Tk × (Nat × Nat × Nat) := rscan (s.length + 1) cm s l c
/-- The same, behind the blanks. -/
def scanT (s : List UInt8) (l c : Nat) : List Tk × (Nat × Nat × Nat) :=
  if (rtok s l c).2.1.2.2 ≠ 0 then ([], (rtok s l c).2.1)
  else if (rtok s l c).1.kind = 4 then ([(rtok s l c).1], (0, 0, 0))
  else pre [(rtok s l c).1] (scanG false (s.drop (rtok s l c).2.2) l (c + (rtok s l c).2.2))
theorem scanG_is (cm : Bool) (s : List UInt8) (l c : Nat) : scanG cm s l c = scanT (s.drop (rskip cm s l c).1) (rskip cm s l c).2.1 (rskip cm s l c).2.2 := by
  rw [scanG, rscan, scanT]
  split
  · rfl
  · rename_i h0
    split
    · rfl
    · rename_i h4
      have hp := rtok_pos _ _ _ (by simpa using h0) h4
      have hle := rtok_le (s.drop (rskip cm s l c).1) (rskip cm s l c).2.1 (rskip cm s l c).2.2
      rw [List.length_drop] at hle
      rw [scanG, rscan_fuel s.length]
      · rw [List.length_drop, List.length_drop]; omega
      · omega
theorem scanG_err (cm : Bool) (s : List UInt8) (l c : Nat) (h : (scanG cm s l c).2.2.2 ≠ 0) : (scanG cm s l c).1 = [] := by
  rw [scanG_is] at h ⊢
  unfold scanT at h ⊢
  split
  · rfl
  · rename_i h0
    rw [if_neg h0] at h
    split
    · rename_i h4; rw [if_pos h4] at h; simp at h
    · rename_i h4
      rw [if_neg h4] at h
      unfold pre at h ⊢
      split
      · rename_i h5; rw [if_pos h5] at h; exact absurd h5 h
      · rfl

theorem scan_nl (cm : Bool) (b : UInt8) (r : List UInt8) (l c : Nat) (h : b.toNat = 10) : scanG cm (b :: r) l c = scanG false r (l + 1) 1 := by
  rw [scanG_is, scanG_is false r, rskip, if_pos h]
  simp only
  rw [Nat.add_comm 1, List.drop_succ_cons]
theorem scan_comment (cm : Bool) (b : UInt8) (r : List UInt8) (l c : Nat) (h : b.toNat ≠ 10) (h2 : cm = true ∨ b.toNat = 35) : scanG cm (b :: r) l c = scanG true r l (c + 1) := by
  rw [scanG_is, scanG_is true r, rskip, if_neg h, if_pos h2]
  simp only
  rw [Nat.add_comm 1, List.drop_succ_cons]
theorem scan_blank (b : UInt8) (r : List UInt8) (l c : Nat) (h : b.toNat ≠ 10) (h2 : b.toNat ≠ 35) (h3 : blankN b.toNat = true) : scanG false (b :: r) l c = scanG false r l (c + 1) := by
  rw [scanG_is, scanG_is false r, rskip, if_neg h, if_neg (by simpa using h2), if_pos h3]
  simp only
  rw [Nat.add_comm 1, List.drop_succ_cons]
theorem scan_tok (b : UInt8) (r : List UInt8) (l c : Nat) (h2 : b.toNat ≠ 35) (h3 : blankN b.toNat = false) : scanG false (b :: r) l c = scanT (b :: r) l c := by
  have h10 : b.toNat ≠ 10 := by intro e; rw [e] at h3; simp [blankN] at h3
  rw [scanG_is, rskip, if_neg h10, if_neg (by simpa using h2), if_neg (by rw [h3]; simp)]
  rfl
theorem scan_end (cm : Bool) (l c : Nat) : scanG cm [] l c = ([⟨4, [], l, c⟩], (0, 0, 0)) := by
  rw [scanG_is]
  rfl
theorem scan_cm_nl (b : UInt8) (r : List UInt8) (l c : Nat) (h : b.toNat = 10) : scanG true (b :: r) l c = scanG false (b :: r) l c := by
  rw [scan_nl _ _ _ _ _ h, scan_nl _ _ _ _ _ h]

end Go.Proofs.Ytakihbjfkpebcaa.Lx
