/-
  More blanks between tokens, in plain words.
-/
import Derived.Test.YteaolilndkjlpaaLxScan2
namespace Go.Proofs.Yteaolilndkjlpaa.Lx
open Go.RowKit

/-- The four gaps. -/
def gapL (g : Nat) : List UInt8 := if g = 0 then [32] else if g = 1 then [9, 10] else if g = 2 then [32, 35, 32, 110, 111, 32, 116, 111, 107, 101, 110, 32, 39, 32, 104, 101, 114, 101, 10] else [13, 10, 32]
def qOfL (s : List UInt8) : UInt8 := if s.count 34 < s.count 39 then 34 else 39
theorem qOfL_is (s : List UInt8) : (qOfL s).toNat = 39 ∨ (qOfL s).toNat = 34 := by
  unfold qOfL; split <;> simp
/-- A token as text. -/
def tkText (t : Tk) : List UInt8 := if t.kind = 2 then quoteL (qOfL t.text) t.text else t.text
def piece (p : Nat × Tk) : List UInt8 := gapL p.1 ++ tkText p.2

theorem scan_run : ∀ (x rest : List UInt8) (l c : Nat), Flat x → scanG true (x ++ 10 :: rest) l c = scanG false rest (l + 1) 1
  | [], rest, l, c, _ => scan_nl _ _ _ _ _ rfl
  | b :: x, rest, l, c, h => by
    rw [List.cons_append, scan_comment _ _ _ _ _ (h b (by simp)) (.inl rfl)]
    exact scan_run x rest l (c + 1) (fun y hy => h y (by simp [hy]))
def gapTwo : List UInt8 := [32, 110, 111, 32, 116, 111, 107, 101, 110, 32, 39, 32, 104, 101, 114, 101]
theorem gapTwo_flat : Flat gapTwo := by
  have : gapTwo.all (fun b => decide (b.toNat ≠ 10)) = true := by decide
  intro b hb
  simpa using List.all_eq_true.1 this b hb
theorem gap_two (rest : List UInt8) (l c : Nat) : scanG false ([32, 35, 32, 110, 111, 32, 116, 111, 107, 101, 110, 32, 39, 32, 104, 101, 114, 101, 10] ++ rest) l c = scanG false rest (l + 1) 1 := by
  have e : [32, 35, 32, 110, 111, 32, 116, 111, 107, 101, 110, 32, 39, 32, 104, 101, 114, 101, 10] ++ rest = 32 :: 35 :: (gapTwo ++ 10 :: rest) := by simp [gapTwo]
  rw [e, scan_blank 32 _ _ _ (by decide) (by decide) (by decide), scan_comment _ 35 _ _ _ (by decide) (.inr (by decide))]
  exact scan_run gapTwo rest _ _ gapTwo_flat
theorem gap_skip (g : Nat) (rest : List UInt8) (l c : Nat) : ∃ l' c', scanG false (gapL g ++ rest) l c = scanG false rest l' c' := by
  unfold gapL
  split
  · exact ⟨l, c + 1, scan_blank 32 rest l c (by decide) (by decide) (by decide)⟩
  · split
    · refine ⟨l + 1, 1, ?_⟩
      show scanG false (9 :: 10 :: rest) l c = _
      rw [scan_blank 9 _ _ _ (by decide) (by decide) (by decide), scan_nl _ 10 _ _ _ (by decide)]
    · split
      · refine ⟨l + 1, 1, ?_⟩
        exact gap_two rest l c
      · refine ⟨l + 1, 1 + 1, ?_⟩
        show scanG false (13 :: 10 :: 32 :: rest) l c = _
        rw [scan_blank 13 _ _ _ (by decide) (by decide) (by decide), scan_nl _ 10 _ _ _ (by decide), scan_blank 32 _ _ _ (by decide) (by decide) (by decide)]
theorem gap_open (g : Nat) (rest : List UInt8) : Open (gapL g ++ rest) := by
  intro b r e
  unfold gapL at e
  split at e
  · injection e with e _; rw [← e]; decide
  · split at e
    · injection e with e _; rw [← e]; decide
    · split at e
      · injection e with e _; rw [← e]; decide
      · injection e with e _; rw [← e]; decide
theorem tok_read (t : Tk) (h : Valid t) (rest : List UInt8) (ho : Open rest) (l c : Nat) : ∃ t' c', t'.kind = t.kind ∧ t'.text = t.text ∧ scanG false (tkText t ++ rest) l c = pre [t'] (scanG false rest l c') := by
  obtain ⟨k, tx, tl, tc⟩ := t
  rcases h with ⟨hk, hg⟩ | ⟨hk, h0, h16⟩ | ⟨hk, b, hb, ht⟩
  · simp only at hk hg
    subst hk
    exact ⟨⟨1, tx, l, c⟩, _, rfl, rfl, by rw [tkText, if_neg (by simp)]; exact scan_name tx rest l c hg ho⟩
  · simp only at hk h0 h16
    subst hk
    exact ⟨⟨2, tx, l, c⟩, _, rfl, rfl, by rw [tkText, if_pos rfl]; exact scan_quoted _ (qOfL_is tx) tx rest l c h0 h16⟩
  · simp only at hk ht
    subst hk
    subst ht
    exact ⟨⟨3, [b], l, c⟩, _, rfl, rfl, by rw [tkText, if_neg (by simp)]; exact scan_sign b rest l c hb⟩
theorem pieces_open (ps : List (Nat × Tk)) : Open (ps.flatMap piece) := by
  cases ps with
  | nil => intro b r e; simp at e
  | cons p ps =>
    rw [List.flatMap_cons, piece, List.append_assoc]
    exact gap_open _ _
theorem pieces_scan : ∀ (ps : List (Nat × Tk)) (l c : Nat), (∀ p ∈ ps, Valid p.2) → ∃ m e, scanG false (ps.flatMap piece) l c = (m ++ [e], (0, 0, 0)) ∧ e.kind = 4 ∧ e.text = [] ∧ m.map (fun t => (t.kind, t.text)) = ps.map (fun p => (p.2.kind, p.2.text))
  | [], l, c, _ => ⟨[], _, scan_end _ _ _, rfl, rfl, rfl⟩
  | p :: ps, l, c, h => by
    rw [List.flatMap_cons, piece, List.append_assoc]
    obtain ⟨l1, c1, h1⟩ := gap_skip p.1 (tkText p.2 ++ ps.flatMap piece) l c
    obtain ⟨t', c2, hk, ht, h2⟩ := tok_read p.2 (h p (by simp)) (ps.flatMap piece) (pieces_open ps) l1 c1
    obtain ⟨m, e, h3, h4, h5, h6⟩ := pieces_scan ps l1 c2 (fun q hq => h q (by simp [hq]))
    refine ⟨t' :: m, e, ?_, h4, h5, ?_⟩
    · rw [h1, h2, h3]; rfl
    · simp only [List.map_cons, h6, hk, ht]
theorem gap_len (g : Nat) : (gapL g).length ≤ 19 := by
  unfold gapL
  split
  · simp
  · split
    · simp
    · split <;> simp
theorem tkText_len (t : Tk) (h : Valid t) : (tkText t).length ≤ 66 := by
  obtain ⟨k, tx, tl, tc⟩ := t
  rcases h with ⟨hk, hg⟩ | ⟨hk, h0, h16⟩ | ⟨hk, b, hb, ht⟩
  · simp only at hk hg
    subst hk
    rw [tkText, if_neg (by simp)]
    have := hg.2.1
    simp only; omega
  · simp only at hk h0 h16
    subst hk
    rw [tkText, if_pos rfl]
    have hl : ∀ (q : UInt8) (s : List UInt8), (qbody q s).length ≤ 4 * s.length := fun q s => by
      induction s with
      | nil => simp [qbody]
      | cons c s ih =>
        have : (qch q c).length ≤ 4 := by
          unfold qch
          split
          · simp
          · split
            · simp
            · split
              · simp
              · split <;> simp
        simp [qbody] at ih ⊢
        omega
    have := hl (qOfL tx) tx
    simp only [quoteL, List.length_cons, List.length_append, List.length_nil]
    omega
  · simp only at hk ht
    subst hk
    subst ht
    rw [tkText, if_neg (by simp)]
    simp
theorem pieces_len : ∀ (ps : List (Nat × Tk)), (∀ p ∈ ps, Valid p.2) → (ps.flatMap piece).length ≤ 85 * ps.length
  | [], _ => by simp
  | p :: ps, h => by
    have h1 := pieces_len ps (fun q hq => h q (by simp [hq]))
    have h2 := gap_len p.1
    have h3 := tkText_len p.2 (h p (by simp))
    rw [List.flatMap_cons, piece, List.length_append, List.length_append, List.length_cons]
    omega

end Go.Proofs.Yteaolilndkjlpaa.Lx
