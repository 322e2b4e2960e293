/-
  The walk of skip.
-/
import Derived.Test.YtakihbjfkpebcaaLxLit2
namespace Go.Proofs.Ytakihbjfkpebcaa.Lx
open Go.RowKit
set_option maxRecDepth 100000

def blankN (c : Nat) : Bool := decide (c = 32 ∨ c = 9 ∨ c = 10 ∨ c = 13)
def blanksB : ByteArray := ⟨#[32, 9, 10, 13]⟩
theorem blank_fin : ∀ n : Fin 256, decide (0 ≤ Lib.indexByte [32, 9, 10, 13] (UInt8.ofNat n.val)) = blankN n.val := by decide +kernel
theorem blank_at (c : UInt8) : decide (0 ≤ Lib.indexByte (bs blanksB) c) = blankN c.toNat := by
  show decide (0 ≤ Lib.indexByte [32, 9, 10, 13] c) = _
  have := blank_fin ⟨c.toNat, c.toNat_lt⟩
  simpa using this

/-- Blanks and comments that a text begins with: how many bytes, and the place behind them. -/
def rskip : Bool → List UInt8 → Nat → Nat → Nat × Nat × Nat
  | _, [], l, c => (0, l, c)
  | cm, b :: r, l, c =>
    if b.toNat = 10 then (1 + (rskip false r (l + 1) 1).1, (rskip false r (l + 1) 1).2)
    else if cm = true ∨ b.toNat = 35 then (1 + (rskip true r l (c + 1)).1, (rskip true r l (c + 1)).2)
    else if blankN b.toNat = true then (1 + (rskip false r l (c + 1)).1, (rskip false r l (c + 1)).2)
    else (0, l, c)
theorem rskip_step (cm : Bool) (X : ByteArray) (l c : Nat) (h : 0 < X.size) : rskip cm (bs X) l c =
    if X[0].toNat = 10 then (1 + (rskip false (bs (cut X 1)) (l + 1) 1).1, (rskip false (bs (cut X 1)) (l + 1) 1).2)
    else if cm = true ∨ X[0].toNat = 35 then (1 + (rskip true (bs (cut X 1)) l (c + 1)).1, (rskip true (bs (cut X 1)) l (c + 1)).2)
    else if blankN X[0].toNat = true then (1 + (rskip false (bs (cut X 1)) l (c + 1)).1, (rskip false (bs (cut X 1)) l (c + 1)).2)
    else (0, l, c) := by
  rw [bs_cut]
  have : ∀ (s : List UInt8) (h : 0 < s.length), rskip cm s l c =
    if s[0].toNat = 10 then (1 + (rskip false (s.drop 1) (l + 1) 1).1, (rskip false (s.drop 1) (l + 1) 1).2)
    else if cm = true ∨ s[0].toNat = 35 then (1 + (rskip true (s.drop 1) l (c + 1)).1, (rskip true (s.drop 1) l (c + 1)).2)
    else if blankN s[0].toNat = true then (1 + (rskip false (s.drop 1) l (c + 1)).1, (rskip false (s.drop 1) l (c + 1)).2)
    else (0, l, c) := fun s h => by
    cases s with
    | nil => exact absurd h (by simp)
    | cons b r => rw [rskip]; rfl
  exact this (bs X) h
theorem rskip_nil (cm : Bool) (X : ByteArray) (l c : Nat) (h : X.size = 0) : rskip cm (bs X) l c = (0, l, c) := by
  rw [empty_of h]; rfl

/-- How far the skipping is: m bytes of t, at a place. -/
def SkAt (t : ByteArray) (g line col B : Nat) (w s : World) (v : Value) : Prop :=
  ∃ (m l c : Nat) (cm : Bool), v = .bool cm ∧ m ≤ t.size ∧ l ≤ line + m ∧ c ≤ col + m + 1 ∧
    rskip false (bs t) line col = (m + (rskip cm (bs (cut t m)) l c).1, (rskip cm (bs (cut t m)) l c).2) ∧
    Sc s g (cut t m) l c ∧ Sep g B w s

theorem sk_next {t : ByteArray} {g line col B : Nat} {w s : World} {m : Nat} (l' c' : Nat) (cm' : Bool) (hm : m + 1 ≤ t.size) (hl : l' ≤ line + m + 1) (hc : c' ≤ col + m + 2)
    (hr : rskip false (bs t) line col = (m + (1 + (rskip cm' (bs (cut (cut t m) 1)) l' c').1), (rskip cm' (bs (cut (cut t m) 1)) l' c').2))
    (hsc : Sc s g (cut (cut t m) 1) l' c') (hsep : Sep g B w s) : SkAt t g line col B w s (.bool cm') ∧ leftOf s g = t.size - (m + 1) := by
  rw [cut_cut] at hr hsc
  exact ⟨⟨m + 1, l', c', cm', rfl, hm, by omega, by omega, by rw [hr, Nat.add_assoc], hsc, hsep⟩, by rw [leftOf_is hsc, cut_size]⟩

set_option maxRecDepth 100000 in
set_option maxHeartbeats 2000000 in
theorem skip_any (g : Nat) (t : ByteArray) (line col : Nat) (w : World) (h : Sc w g t line col) (hs : t.size ≤ 1048576) (hl : line < 4611686018000000000) (hc : col < 4611686018000000000) :
    Calls Try.prog 58 #[.pointer (some ⟨g, 0, none⟩)] w (fun e w' =>
      e = .returned (.tuple #[]) ∧ Sc w' g (cut t (rskip false (bs t) line col).1) (rskip false (bs t) line col).2.1 (rskip false (bs t) line col).2.2 ∧ Sep g w.heap.size w w') := by
  obtain ⟨R, hR⟩ : ∃ R, R = rskip false (bs t) line col := ⟨_, rfl⟩
  rw [← hR]
  have HR := Lib.hid hR
  have H := Lib.hid h
  clear h hR
  go_enter Try.func58, Try.ntmps58
  go_wp2
  go_loopw [2] (fun v wr => SkAt t g line col w.heap.size w wr v) (fun _ wr => leftOf wr g)
  case atStart => exact ⟨0, line, col, false, rfl, by omega, by omega, by omega, by rw [cut_zero]; simp, by rw [cut_zero]; exact H.out, Sep.refl _ _ _⟩
  case round =>
    obtain ⟨m, l, c, cm, rfl, hm, hlm, hcm, hrl, hsc, hsep⟩ := hrel
    obtain ⟨X, hX⟩ : ∃ X, X = cut t m := ⟨_, rfl⟩
    have hXs : X.size = t.size - m := by rw [hX, cut_size]
    rw [← HR.out, ← hX] at hrl
    rw [← hX] at hsc
    have hlf := leftOf_is hsc
    have c0 : wr.cell? ⟨g, 0, none⟩ = some (.string X) := cell_of_row wr g 0 _ _ (0, 0) hsc
    have hwr := hsep.size
    have HSc := Lib.hid hsc
    have HS := Lib.hid hsep
    have HX := Lib.hid hX
    clear hsc hsep hX
    by_cases hx0 : X.size = 0
    · rw [rskip_nil cm X l c hx0] at hrl
      have HRL := Lib.hid hrl
      have hxe := empty_of hx0
      rw [hxe] at c0
      clear hrl
      go_wp2
      go_end0
      rw [HRL.out]
      refine ⟨rfl, ?_, HS.out⟩
      show Sc wr g (cut t (m + 0)) _ _
      rw [Nat.add_zero, ← HX.out]; exact HSc.out
    · have hxp : 0 < X.size := by omega
      have he := nempty hxp
      rw [rskip_step cm X l c hxp] at hrl
      have KA : ∀ W : World, Calls Try.prog 63 #[.int .u8 X[0].toNat, .string blanksB] W fun e w' => e = .returned (.bool (blankN X[0].toNat)) ∧ W = w' := fun W => by
        have := among_u8 X[0] blanksB W
        rw [blank_at] at this
        exact this
      have KX := Lib.hid (take_any g X l c 1 wr HSc.out (by omega) (by omega))
      have KA1 := Lib.hid KA
      clear KA
      by_cases h10 : X[0].toNat = 10
      · rw [if_pos h10] at hrl
        have HRL := Lib.hid hrl
        rw [h10] at KA1
        clear hrl
        cases cm
        all_goals
          go_wp2_with fail
          refine (KA1.out _).mono ?_
          rintro e w2 ⟨rfl, rfl⟩
          rw [show blankN 10 = true from rfl]
          go_wp2_with fail
          refine KX.out.mono ?_
          rintro e w3 ⟨rfl, s3, s4⟩
          have c1 : w3.cell? ⟨g, 1, none⟩ = some (.int .i64 l) := cell_of_row w3 g 1 _ _ (0, 0) s3
          have c2 : w3.cell? ⟨g, 2, none⟩ = some (.int .i64 ((c + 1 : Nat) : Int)) := cell_of_row w3 g 2 _ _ (0, 0) s3
          have f0 : ∀ i, w3.frozen? ⟨g, i, none⟩ = false := fun i => by have h' := s3; unfold Sc at h'; simp [World.frozen?, h']
          have hs5 := HS.out.trans (s4.mono hwr)
          have HS3 := Lib.hid s3
          have HS5 := Lib.hid hs5
          clear s3 s4 hs5
          go_wp2
          have hfin := sk_next (w := w) (B := w.heap.size) (s := (w3.setCell ⟨g, 1, none⟩ (.int .i64 ((l : Int) + 1))).setCell ⟨g, 2, none⟩ (.int .i64 1)) (t := t) (g := g) (line := line) (col := col) (m := m) (l + 1) 1 false (by omega) (by omega) (by omega)
            (by rw [← HR.out, HRL.out, HX.out]) (by rw [← HX.out]; exact heap_set (heap_set HS3.out 1 _) 2 _)
            (Sep.setCell (p := ⟨g, 2, none⟩) (Sep.setCell (p := ⟨g, 1, none⟩) HS5.out (.inl rfl) _) (.inl rfl) _)
          first
            | exact ⟨hfin.1, by rw [hfin.2, hlf]; omega⟩
            | (go_roundw
               case rel => exact hfin.1
               case measure => rw [hfin.2, hlf]; omega)
      · rw [if_neg h10] at hrl
        have hb10 : ((X[0].toNat : Int) == 10) = false := by rw [beq_eq_false_iff_ne]; omega
        by_cases h35 : cm = true ∨ X[0].toNat = 35
        · rw [if_pos h35] at hrl
          have HRL := Lib.hid hrl
          clear hrl
          cases cm
          · have h35' : X[0].toNat = 35 := by simpa using h35
            clear h35
            go_wp2_with fail
            refine KX.out.mono ?_
            rintro e w3 ⟨rfl, s3, s4⟩
            have hs5 := HS.out.trans (s4.mono hwr)
            have HS3 := Lib.hid s3
            have HS5 := Lib.hid hs5
            clear s3 s4 hs5
            go_wp2
            have hfin := sk_next (w := w) (B := w.heap.size) (s := w3) (t := t) (g := g) (line := line) (col := col) (m := m) l (c + 1) true (by omega) (by omega) (by omega)
              (by rw [← HR.out, HRL.out, HX.out]) (by rw [← HX.out]; exact HS3.out) HS5.out
            first
              | exact ⟨hfin.1, by rw [hfin.2, hlf]; omega⟩
              | (go_roundw
                 case rel => exact hfin.1
                 case measure => rw [hfin.2, hlf]; omega)
          · clear h35
            go_wp2_with fail
            refine KX.out.mono ?_
            rintro e w3 ⟨rfl, s3, s4⟩
            have hs5 := HS.out.trans (s4.mono hwr)
            have HS3 := Lib.hid s3
            have HS5 := Lib.hid hs5
            clear s3 s4 hs5
            go_wp2
            have hfin := sk_next (w := w) (B := w.heap.size) (s := w3) (t := t) (g := g) (line := line) (col := col) (m := m) l (c + 1) true (by omega) (by omega) (by omega)
              (by rw [← HR.out, HRL.out, HX.out]) (by rw [← HX.out]; exact HS3.out) HS5.out
            have hn10 : ((X[0].toNat : Int) != 10) = true := by rw [bne, hb10]; rfl
            first
              | exact ⟨by rw [hn10]; exact hfin.1, by rw [hfin.2, hlf]; omega⟩
              | exact ⟨hfin.1, by rw [hfin.2, hlf]; omega⟩
              | (go_roundw
                 case rel => rw [hn10]; exact hfin.1
                 case measure => rw [hfin.2, hlf]; omega)
        · rw [if_neg h35] at hrl
          have hcm : cm = false := by cases cm <;> simp_all
          subst hcm
          have hn35 : X[0].toNat ≠ 35 := by simpa using h35
          have hb35 : ((X[0].toNat : Int) == 35) = false := by rw [beq_eq_false_iff_ne]; omega
          clear h35
          cases hbl : blankN X[0].toNat
          · rw [hbl] at KA1
            rw [if_neg (by rw [hbl]; simp)] at hrl
            have HRL := Lib.hid hrl
            clear hrl hbl
            go_wp2_with fail
            refine (KA1.out _).mono ?_
            rintro e w2 ⟨rfl, rfl⟩
            go_wp2
            refine bodyPost_ret (results_none rfl _ _ _) rfl ?_
            rw [HRL.out]
            refine ⟨rfl, ?_, HS.out⟩
            show Sc _ g (cut t (m + 0)) _ _
            rw [Nat.add_zero, ← HX.out]; exact HSc.out
          · rw [hbl] at KA1
            rw [if_pos hbl] at hrl
            have HRL := Lib.hid hrl
            clear hrl hbl
            go_wp2_with fail
            refine (KA1.out _).mono ?_
            rintro e w2 ⟨rfl, rfl⟩
            go_wp2_with fail
            refine KX.out.mono ?_
            rintro e w3 ⟨rfl, s3, s4⟩
            have hs5 := HS.out.trans (s4.mono hwr)
            have HS3 := Lib.hid s3
            have HS5 := Lib.hid hs5
            clear s3 s4 hs5
            go_wp2
            have hfin := sk_next (w := w) (B := w.heap.size) (s := w3) (t := t) (g := g) (line := line) (col := col) (m := m) l (c + 1) false (by omega) (by omega) (by omega)
              (by rw [← HR.out, HRL.out, HX.out]) (by rw [← HX.out]; exact HS3.out) HS5.out
            first
              | exact ⟨hfin.1, by rw [hfin.2, hlf]; omega⟩
              | (go_roundw
                 case rel => exact hfin.1
                 case measure => rw [hfin.2, hlf]; omega)

end Go.Proofs.Ytakihbjfkpebcaa.Lx
