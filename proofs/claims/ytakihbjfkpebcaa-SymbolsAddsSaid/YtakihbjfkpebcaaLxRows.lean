/-
  Rows of tokens in memory; lines of tokens.
-/
import Derived.Test.YtakihbjfkpebcaaLxAt
import Derived.Test.YtakihbjfkpebcaaLxScan2
import Derived.BigQuiet
import Derived.Deep.QuietTactic
namespace Go.Proofs.Ytakihbjfkpebcaa.Lx
open Go.RowKit
set_option maxRecDepth 100000

/-- Block r begins with these tokens. -/
def Toks (W : World) (r : Nat) (ts : List Tk) : Prop := r < W.heap.size ∧ ∀ j u, (tkCells ts)[j]? = some u → W.cell? ⟨r, j, none⟩ = some u
theorem Toks.below {W W' : World} {r : Nat} {ts : List Tk} (h : Toks W r ts) (b : Below W.heap.size W W') : Toks W' r ts :=
  ⟨Nat.lt_of_lt_of_le h.1 b.size, fun j u hj => (b.cell (p := ⟨r, j, none⟩) h.1).trans (h.2 j u hj)⟩
theorem Toks.alloc {W : World} {r : Nat} {ts : List Tk} (h : Toks W r ts) (o : Obj) : Toks (W.alloc o) r ts := h.below ((Below.refl _ _).alloc (Nat.le_refl _) o)
theorem Toks.drewN {W : World} {r : Nat} {ts : List Tk} (h : Toks W r ts) (n : Nat) : Toks (W.drewN n) r ts := h
theorem below_drewN {B : Nat} {W W' : World} (h : Below B W W') (n : Nat) : Below B W (W'.drewN n) := ⟨h.os, h.tape, h.output, h.size, h.block⟩
theorem tkCells_at (ts : List Tk) (k : Nat) (h : k < ts.length) : (tkCells ts)[k * 4]? = some (.int .i64 ts[k].kind) ∧ (tkCells ts)[k * 4 + 1]? = some (.string (mk ts[k].text)) ∧ (tkCells ts)[k * 4 + 2]? = some (.int .i64 ts[k].line) ∧ (tkCells ts)[k * 4 + 3]? = some (.int .i64 ts[k].col) := by
  induction ts generalizing k with
  | nil => simp at h
  | cons t ts ih =>
    have e : tkCells (t :: ts) = .int .i64 t.kind :: .string (mk t.text) :: .int .i64 t.line :: .int .i64 t.col :: tkCells ts := by simp [tkCells]
    rw [e]
    cases k with
    | zero => exact ⟨rfl, rfl, rfl, rfl⟩
    | succ k =>
      have := ih k (by simpa using h)
      rw [show (k + 1) * 4 = k * 4 + 4 by omega]
      simpa using this
theorem Toks.at_ {W : World} {r : Nat} {ts : List Tk} (h : Toks W r ts) (k : Nat) (hk : k < ts.length) :
    W.cell? ⟨r, k * 4, none⟩ = some (.int .i64 ts[k].kind) ∧ W.cell? ⟨r, k * 4 + 1, none⟩ = some (.string (mk ts[k].text)) ∧ W.cell? ⟨r, k * 4 + 2, none⟩ = some (.int .i64 ts[k].line) ∧ W.cell? ⟨r, k * 4 + 3, none⟩ = some (.int .i64 ts[k].col) := by
  obtain ⟨a, b, c, d⟩ := tkCells_at ts k hk
  exact ⟨h.2 _ _ a, h.2 _ _ b, h.2 _ _ c, h.2 _ _ d⟩
theorem toks_of {w : World} {B : Nat} {A : Option Addr} {cap : Nat} {ts : List Tk} (h : w.ownsRow B 110 4 (.slice A ts.length cap) ts.length (tkCells ts)) (hn : 0 < ts.length) :
    ∃ r, A = some ⟨r, 0, none⟩ ∧ Toks w r ts ∧ ts.length ≤ cap := by
  obtain ⟨r, e, hr, _, hc, hx⟩ := row_at h hn
  exact ⟨r, e, ⟨hr, hx⟩, hc⟩

theorem rtok_line (s : List UInt8) (l c : Nat) (h : (rtok s l c).2.1.2.2 = 0) : (rtok s l c).1.line = l := by
  cases s with
  | nil => rfl
  | cons b r =>
    rw [rtok] at h ⊢
    split
    · rename_i hl
      rw [if_pos hl] at h
      split
      · rename_i h2; rw [if_pos h2] at h; simp at h
      · rfl
    · rename_i hl
      rw [if_neg hl] at h
      split
      · rename_i hq
        rw [if_pos hq] at h
        split
        · rename_i e; rw [e] at h; simp at h
        · rename_i t e
          rw [e] at h
          simp only at h
          split
          · rename_i h2; rw [if_pos h2] at h; simp at h
          · rename_i h2
            rw [if_neg h2] at h
            split
            · rename_i h3; rw [if_pos h3] at h; simp at h
            · rfl
      · rename_i hq
        rw [if_neg hq] at h
        split
        · rfl
        · rename_i hs; rw [if_neg hs] at h; simp at h
theorem scan_lines (cm : Bool) (s : List UInt8) (l c : Nat) : ∀ t ∈ (scanG cm s l c).1, t.line ≤ l + s.length := by
  refine scan_fine (fun cm s l c => ∀ t ∈ (scanG cm s l c).1, t.line ≤ l + s.length) ?_ ?_ ?_ ?_ ?_ s.length cm s l c (Nat.le_refl _)
  · intro cm l c t h
    rw [scan_end] at h
    simp at h
    subst h; simp
  · intro cm b r l c e ih t h
    rw [scan_nl _ _ _ _ _ e] at h
    have := ih t h
    simp only [List.length_cons]; omega
  · intro cm b r l c e e2 ih t h
    rw [scan_comment _ _ _ _ _ e e2] at h
    have := ih t h
    simp only [List.length_cons]; omega
  · intro b r l c e e2 e3 ih t h
    rw [scan_blank _ _ _ _ e e2 e3] at h
    have := ih t h
    simp only [List.length_cons]; omega
  · intro b r l c e e2 ih t h
    rw [scan_tok _ _ _ _ e e2] at h
    unfold scanT at h
    split at h
    · simp at h
    · rename_i h0
      rw [if_neg (rtok_kind b r l c)] at h
      unfold pre at h
      split at h
      · rcases List.mem_append.1 h with h | h
        · rw [List.mem_singleton] at h
          subst h
          rw [rtok_line _ _ _ (by simpa using h0)]; omega
        · have := ih (by simpa using h0) (rtok_kind b r l c) t h
          rw [List.length_drop] at this
          omega
      · simp at h

theorem scan_len (cm : Bool) (s : List UInt8) (l c : Nat) : (scanG cm s l c).1.length ≤ 1 + s.length := by
  refine scan_fine (fun cm s l c => (scanG cm s l c).1.length ≤ 1 + s.length) ?_ ?_ ?_ ?_ ?_ s.length cm s l c (Nat.le_refl _)
  · intro cm l c
    rw [scan_end]; simp
  · intro cm b r l c e ih
    rw [scan_nl _ _ _ _ _ e]
    simp only [List.length_cons]; omega
  · intro cm b r l c e e2 ih
    rw [scan_comment _ _ _ _ _ e e2]
    simp only [List.length_cons]; omega
  · intro b r l c e e2 e3 ih
    rw [scan_blank _ _ _ _ e e2 e3]
    simp only [List.length_cons]; omega
  · intro b r l c e e2 ih
    rw [scan_tok _ _ _ _ e e2]
    unfold scanT
    split
    · simp
    · rename_i h0
      rw [if_neg (rtok_kind b r l c)]
      have h1 := ih (by simpa using h0) (rtok_kind b r l c)
      have h2 := rtok_pos (b :: r) l c (by simpa using h0) (rtok_kind b r l c)
      rw [List.length_drop] at h1
      unfold pre
      split
      · simp only [List.length_append, List.length_cons, List.length_nil] at h1 ⊢
        omega
      · simp

/-- What a text's scan tells, the text short: wrong, or tokens and the end. -/
theorem scanS_cases (s : List UInt8) (h : s.length ≤ 65536) : (∃ f, f.2.2 ≠ 0 ∧ scanS s = ([], f)) ∨ (∃ T e, scanS s = (T ++ [e], (0, 0, 0)) ∧ e.kind = 4 ∧ e.text = [] ∧ (∀ t ∈ T, Valid t) ∧ (∀ t ∈ T ++ [e], t.line ≤ 1 + s.length) ∧ T.length ≤ s.length) := by
  have hS : scanS s = scanG false s 1 1 := by rw [scanS, if_neg (by omega)]
  have hl := scan_lines false s 1 1
  have he := scan_ends false s 1 1
  have hr := scanG_err false s 1 1
  have hn := scan_len false s 1 1
  rw [← hS] at hl he hr hn
  generalize scanS s = R at hl he hr hn ⊢
  clear hS
  obtain ⟨ts, f⟩ := R
  by_cases hf : f.2.2 = 0
  · obtain ⟨⟨T, e, rfl, hk, ht, hv⟩, rfl⟩ := he ts f rfl hf
    exact .inr ⟨T, e, rfl, hk, ht, hv, hl, by simp at hn; omega⟩
  · have : ts = [] := hr hf
    subst this
    exact .inl ⟨f, hf, rfl⟩

end Go.Proofs.Ytakihbjfkpebcaa.Lx
