/-
  The same text at another place: the same tokens, at other places.
-/
import Derived.Test.YtppdemdjlhdfcaaLxScan2
namespace Go.Proofs.Ytppdemdjlhdfcaa.Lx
open Go.RowKit
set_option maxRecDepth 100000

/-- A token's kind and text. -/
def Tk.kt (t : Tk) : Nat × List UInt8 := (t.kind, t.text)
theorem rtok_place (b : UInt8) (r : List UInt8) (l c l' c' : Nat) (h : (rtok (b :: r) l c).2.1.2.2 = 0) : ∃ t, rtok (b :: r) l' c' = (t, (0, 0, 0), (rtok (b :: r) l c).2.2) ∧ t.kt = (rtok (b :: r) l c).1.kt := by
  rw [rtok] at h ⊢
  rw [rtok]
  split
  · rename_i hl
    rw [if_pos hl] at h
    split
    · rename_i h2; rw [if_pos h2] at h; simp at h
    · exact ⟨_, rfl, rfl⟩
  · rename_i hl
    rw [if_neg hl] at h
    split
    · rename_i hq
      rw [if_pos hq] at h
      cases e : (rlit b (r.length + 1) r).1 with
      | none => rw [e] at h; simp at h
      | some t =>
        rw [e] at h
        simp only at h ⊢
        split
        · rename_i h2; rw [if_pos h2] at h; simp at h
        · rename_i h2
          rw [if_neg h2] at h
          split
          · rename_i h3; rw [if_pos h3] at h; simp at h
          · exact ⟨_, rfl, rfl⟩
    · rename_i hq
      rw [if_neg hq] at h
      split
      · exact ⟨_, rfl, rfl⟩
      · rename_i hs; rw [if_neg hs] at h; simp at h
theorem scan_place (cm : Bool) (s : List UInt8) (l c : Nat) : ∀ ts, scanG cm s l c = (ts, (0, 0, 0)) → ∀ l' c', ∃ us, scanG cm s l' c' = (us, (0, 0, 0)) ∧ us.map Tk.kt = ts.map Tk.kt := by
  refine scan_fine (fun cm s l c => ∀ ts, scanG cm s l c = (ts, (0, 0, 0)) → ∀ l' c', ∃ us, scanG cm s l' c' = (us, (0, 0, 0)) ∧ us.map Tk.kt = ts.map Tk.kt) ?_ ?_ ?_ ?_ ?_ s.length cm s l c (Nat.le_refl _)
  · intro cm l c ts h l' c'
    rw [scan_end] at h
    refine ⟨_, scan_end _ _ _, ?_⟩
    rw [← (Prod.mk.inj h).1]
    rfl
  · intro cm b r l c e ih ts h l' c'
    rw [scan_nl _ _ _ _ _ e] at h
    rw [scan_nl _ _ _ _ _ e]
    exact ih ts h _ _
  · intro cm b r l c e e2 ih ts h l' c'
    rw [scan_comment _ _ _ _ _ e e2] at h
    rw [scan_comment _ _ _ _ _ e e2]
    exact ih ts h _ _
  · intro b r l c e e2 e3 ih ts h l' c'
    rw [scan_blank _ _ _ _ e e2 e3] at h
    rw [scan_blank _ _ _ _ e e2 e3]
    exact ih ts h _ _
  · intro b r l c e e2 ih ts h l' c'
    rw [scan_tok _ _ _ _ e e2] at h
    rw [scan_tok _ _ _ _ e e2]
    obtain ⟨h0, ts', h1, rfl⟩ := scanT_ok h rfl
    obtain ⟨t, ht, hkt⟩ := rtok_place b r l c l' c' h0
    obtain ⟨us, hu, hm⟩ := ih h0 (rtok_kind b r l c) ts' h1 l' (c' + (rtok (b :: r) l c).2.2)
    refine ⟨t :: us, ?_, by rw [List.map_cons, List.map_cons, hkt, hm]⟩
    have hk : t.kind ≠ 4 := by
      have e := congrArg Prod.fst hkt
      have := rtok_kind b r l c
      simp only [Tk.kt] at e
      rw [e]; exact this
    rw [scanT, ht, if_neg (by simp), if_neg hk]
    simp only
    rw [hu]
    rfl
end Go.Proofs.Ytppdemdjlhdfcaa.Lx
