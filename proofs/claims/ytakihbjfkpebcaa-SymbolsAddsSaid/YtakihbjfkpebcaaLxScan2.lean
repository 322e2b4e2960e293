/-
  Two texts one behind the other; more blanks.
-/
import Derived.Test.YtakihbjfkpebcaaLxScan1
namespace Go.Proofs.Ytakihbjfkpebcaa.Lx
open Go.RowKit
set_option maxRecDepth 100000

theorem scan_fine (P : Bool → List UInt8 → Nat → Nat → Prop) (h0 : ∀ cm l c, P cm [] l c)
    (h1 : ∀ cm b r l c, b.toNat = 10 → P false r (l + 1) 1 → P cm (b :: r) l c)
    (h2 : ∀ cm b r l c, b.toNat ≠ 10 → (cm = true ∨ b.toNat = 35) → P true r l (c + 1) → P cm (b :: r) l c)
    (h3 : ∀ b r l c, b.toNat ≠ 10 → b.toNat ≠ 35 → blankN b.toNat = true → P false r l (c + 1) → P false (b :: r) l c)
    (h4 : ∀ b r l c, b.toNat ≠ 35 → blankN b.toNat = false → ((rtok (b :: r) l c).2.1.2.2 = 0 → (rtok (b :: r) l c).1.kind ≠ 4 → P false ((b :: r).drop (rtok (b :: r) l c).2.2) l (c + (rtok (b :: r) l c).2.2)) → P false (b :: r) l c) :
    ∀ (n : Nat) (cm : Bool) (s : List UInt8) (l c : Nat), s.length ≤ n → P cm s l c
  | n, cm, [], l, c, _ => h0 cm l c
  | 0, _, _ :: _, _, _, h => by simp at h
  | n + 1, cm, b :: r, l, c, h => by
    have ih := scan_fine P h0 h1 h2 h3 h4 n
    have hr : r.length ≤ n := by simpa using h
    by_cases e : b.toNat = 10
    · exact h1 cm b r l c e (ih _ _ _ _ hr)
    by_cases e2 : cm = true ∨ b.toNat = 35
    · exact h2 cm b r l c e e2 (ih _ _ _ _ hr)
    have hcm : cm = false := by cases cm <;> simp_all
    subst hcm
    have e35 : b.toNat ≠ 35 := fun e => e2 (.inr e)
    cases e3 : blankN b.toNat
    · refine h4 b r l c e35 e3 fun hf hk => ih _ _ _ _ ?_
      have := rtok_pos _ _ _ hf hk
      rw [List.length_drop]
      simp only [List.length_cons] at h ⊢
      omega
    · exact h3 b r l c e e35 e3 (ih _ _ _ _ hr)
theorem rtok_kind (b : UInt8) (r : List UInt8) (l c : Nat) : (rtok (b :: r) l c).1.kind ≠ 4 := by
  rw [rtok]
  split
  · split <;> simp [Tk.zero]
  · split
    · split
      · simp [Tk.zero]
      · split
        · simp [Tk.zero]
        · split <;> simp [Tk.zero]
    · split <;> simp [Tk.zero]
theorem scanT_ok {b : UInt8} {r : List UInt8} {l c : Nat} {ts : List Tk} {f : Nat × Nat × Nat} (h : scanT (b :: r) l c = (ts, f)) (hf : f.2.2 = 0) :
    (rtok (b :: r) l c).2.1.2.2 = 0 ∧ ∃ ts', scanG false ((b :: r).drop (rtok (b :: r) l c).2.2) l (c + (rtok (b :: r) l c).2.2) = (ts', f) ∧ ts = (rtok (b :: r) l c).1 :: ts' := by
  unfold scanT at h
  by_cases h0 : (rtok (b :: r) l c).2.1.2.2 = 0
  · rw [if_neg (by omega), if_neg (rtok_kind b r l c)] at h
    refine ⟨h0, ?_⟩
    unfold pre at h
    split at h
    · refine ⟨_, Prod.ext rfl ?_, ?_⟩
      · exact (Prod.mk.inj h).2
      · exact (Prod.mk.inj h).1.symm
    · rename_i h5
      have := (Prod.mk.inj h).2
      rw [this] at h5
      exact absurd hf h5
  · rw [if_pos h0] at h
    have := (Prod.mk.inj h).2
    rw [this] at h0
    exact absurd hf h0

/-- A token that a text may have, the end's aside. -/
def Valid (t : Tk) : Prop := (t.kind = 1 ∧ GoodL t.text) ∨ (t.kind = 2 ∧ t.text ≠ [] ∧ t.text.length ≤ 16) ∨ (t.kind = 3 ∧ ∃ b, signN b.toNat = true ∧ t.text = [b])
theorem rtok_valid (b : UInt8) (r : List UInt8) (l c : Nat) (h : (rtok (b :: r) l c).2.1.2.2 = 0) : Valid (rtok (b :: r) l c).1 := by
  rw [rtok] at h ⊢
  split
  · rename_i hl
    rw [if_pos hl] at h
    split
    · rename_i h2; rw [if_pos h2] at h; simp at h
    · rename_i h2
      refine .inl ⟨rfl, ?_⟩
      have hp := nsz_pos (r := r) hl
      have hle := nsz_le (b :: r)
      simp only
      refine ⟨by rw [List.length_take]; omega, by rw [List.length_take]; omega, ?_, ?_⟩
      · intro b' r' e
        obtain ⟨k, hk⟩ : ∃ k, nsz (b :: r) = k + 1 := ⟨nsz (b :: r) - 1, by omega⟩
        rw [hk, List.take_succ_cons] at e
        injection e with e1 e2
        rw [← e1]; exact hl
      · rw [nsz, if_pos hl, take_run]
        intro x hx
        exact List.all_takeWhile (p := fun c : UInt8 => nameN c.toNat) |> fun h => List.all_eq_true.1 h x hx
  · rename_i hl
    rw [if_neg hl] at h
    split
    · rename_i hq
      rw [if_pos hq] at h
      split
      · rename_i e; rw [e] at h; simp at h
      · rename_i t e
        rw [e] at h
        simp only at h
        split
        · rename_i h2; rw [if_pos h2] at h; simp at h
        · rename_i h2
          rw [if_neg h2] at h
          split
          · rename_i h3; rw [if_pos h3] at h; simp at h
          · exact .inr (.inl ⟨rfl, h2, by simp only; omega⟩)
    · rename_i hq
      rw [if_neg hq] at h
      split
      · rename_i hs; exact .inr (.inr ⟨rfl, b, hs, rfl⟩)
      · rename_i hs; rw [if_neg hs] at h; simp at h

/-- What a scan that is right tells: tokens, the last one the end. -/
def Ends (ts : List Tk) : Prop := ∃ init e, ts = init ++ [e] ∧ e.kind = 4 ∧ e.text = [] ∧ ∀ t ∈ init, Valid t
theorem scan_ends (cm : Bool) (s : List UInt8) (l c : Nat) : ∀ ts f, scanG cm s l c = (ts, f) → f.2.2 = 0 → Ends ts ∧ f = (0, 0, 0) := by
  refine scan_fine (fun cm s l c => ∀ ts f, scanG cm s l c = (ts, f) → f.2.2 = 0 → Ends ts ∧ f = (0, 0, 0)) ?_ ?_ ?_ ?_ ?_ s.length cm s l c (Nat.le_refl _)
  · intro cm l c ts f h _
    rw [scan_end] at h
    obtain ⟨h1, h2⟩ := Prod.mk.inj h
    exact ⟨⟨[], _, h1.symm, rfl, rfl, fun _ h => absurd h (by simp)⟩, h2.symm⟩
  · intro cm b r l c e ih ts f h
    rw [scan_nl _ _ _ _ _ e] at h
    exact ih ts f h
  · intro cm b r l c e e2 ih ts f h
    rw [scan_comment _ _ _ _ _ e e2] at h
    exact ih ts f h
  · intro b r l c e e2 e3 ih ts f h
    rw [scan_blank _ _ _ _ e e2 e3] at h
    exact ih ts f h
  · intro b r l c e e2 ih ts f h hf
    rw [scan_tok _ _ _ _ e e2] at h
    obtain ⟨h0, ts', h1, rfl⟩ := scanT_ok h hf
    obtain ⟨⟨init, e', rfl, hk, ht, hv⟩, h6⟩ := ih h0 (rtok_kind b r l c) ts' f h1 hf
    refine ⟨⟨(rtok (b :: r) l c).1 :: init, e', rfl, hk, ht, ?_⟩, h6⟩
    intro t ht
    rcases List.mem_cons.1 ht with rfl | ht
    · exact rtok_valid b r l c h0
    · exact hv t ht

theorem run_more (a x : List UInt8) : run (a ++ 10 :: x) = run a := by
  induction a with
  | nil => rfl
  | cons b a ih =>
    unfold run at ih ⊢
    rw [List.cons_append, List.takeWhile_cons, List.takeWhile_cons]
    split
    · rw [List.length_cons, List.length_cons, ih]
    · rfl
theorem rdig_more (r x : List UInt8) (h : (rdig r).2.1 = true) : rdig (r ++ x) = rdig r := by
  cases r with
  | nil => simp [rdig] at h
  | cons b r => rfl
theorem rpair_more (r x : List UInt8) (h : (rpair r).2.1 = true) : rpair (r ++ x) = rpair r := by
  unfold rpair at h ⊢
  cases r with
  | nil => simp [rdig] at h
  | cons b r =>
    by_cases h1 : (rdig (b :: r)).2.1 = true
    · rw [if_pos h1] at h
      have e := rdig_more (b :: r) x h1
      rw [e, if_pos h1, if_pos h1]
      rw [List.cons_append, List.drop_succ_cons, List.drop_zero, List.drop_succ_cons, List.drop_zero, rdig_more r x (by simpa using h)]
    · rw [if_neg h1] at h; simp at h
theorem resc_more (r x : List UInt8) (h : (resc r).2.1 = true) : resc (r ++ x) = resc r := by
  cases r with
  | nil => simp [resc] at h
  | cons b r =>
    rw [List.cons_append]
    rw [resc] at h ⊢
    rw [resc]
    split
    · rfl
    · rename_i h1
      rw [if_neg h1] at h
      split
      · rfl
      · rename_i h2
        rw [if_neg h2] at h
        split
        · rfl
        · rename_i h3
          rw [if_neg h3] at h
          split
          · rename_i h4
            rw [if_pos h4] at h
            rw [rpair_more r x h]
          · rfl
theorem rlit_more (q : UInt8) (x : List UInt8) : ∀ (f : Nat) (s : List UInt8) (f' : Nat) (t : List UInt8), f ≤ f' → (rlit q f s).1 = some t → rlit q f' (s ++ x) = rlit q f s
  | 0, s, f', t, _, h => by simp [rlit] at h
  | f + 1, [], f', t, _, h => by simp [rlit] at h
  | f + 1, c :: r, f', t, hf, h => by
    obtain ⟨f', rfl⟩ : ∃ k, f' = k + 1 := ⟨f' - 1, by omega⟩
    rw [List.cons_append]
    rw [rlit] at h ⊢
    rw [rlit]
    split
    · rename_i h1; rw [if_pos h1] at h; all_goals simp at h
    · rename_i h1
      rw [if_neg h1] at h
      split
      · rfl
      · rename_i h2
        rw [if_neg h2] at h
        split
        · rename_i h3
          rw [if_pos h3] at h
          by_cases h4 : (resc r).2.1 = true
          · rw [if_pos h4] at h ⊢
            rw [resc_more r x h4, if_pos h4]
            simp only [Option.map_eq_some_iff] at h
            obtain ⟨t', ht, _⟩ := h
            have := rlit_more q x f (r.drop (resc r).2.2) f' t' (by omega) ht
            rw [List.drop_append_of_le_length (resc_le r), this]
          · rw [if_neg h4] at h; simp at h
        · rename_i h3
          rw [if_neg h3] at h
          simp only [Option.map_eq_some_iff] at h
          obtain ⟨t', ht, _⟩ := h
          rw [rlit_more q x f r f' t' (by omega) ht]
theorem rtok_more (b : UInt8) (r x : List UInt8) (l c : Nat) (h : (rtok (b :: r) l c).2.1.2.2 = 0) : rtok ((b :: r) ++ 10 :: x) l c = rtok (b :: r) l c := by
  rw [List.cons_append]
  rw [rtok] at h ⊢
  rw [rtok]
  by_cases hl : letterN b.toNat = true
  · rw [if_pos hl, if_pos hl] 
    have e : nsz (b :: (r ++ 10 :: x)) = nsz (b :: r) := by
      rw [nsz, nsz, if_pos hl, if_pos hl, ← List.cons_append, run_more]
    rw [e, ← List.cons_append, List.take_append_of_le_length (nsz_le _)]
  · rw [if_neg hl] at h ⊢
    rw [if_neg hl]
    by_cases hq : quoteN b.toNat = true
    · rw [if_pos hq] at h ⊢
      rw [if_pos hq]
      cases e : (rlit b (r.length + 1) r).1 with
      | none => rw [e] at h; simp at h
      | some t => rw [rlit_more b (10 :: x) (r.length + 1) r _ t (by simp) e, e]
    · rw [if_neg hq, if_neg hq]

theorem scan_join (x : List UInt8) (cm : Bool) (s : List UInt8) (l c : Nat) : ∀ ts, scanG cm s l c = (ts, (0, 0, 0)) → ∃ init e, ts = init ++ [e] ∧ scanG cm (s ++ 10 :: x) l c = pre init (scanG false x (e.line + 1) 1) := by
  refine scan_fine (fun cm s l c => ∀ ts, scanG cm s l c = (ts, (0, 0, 0)) → ∃ init e, ts = init ++ [e] ∧ scanG cm (s ++ 10 :: x) l c = pre init (scanG false x (e.line + 1) 1)) ?_ ?_ ?_ ?_ ?_ s.length cm s l c (Nat.le_refl _)
  · intro cm l c ts h
    rw [scan_end] at h
    refine ⟨[], _, (Prod.mk.inj h).1.symm, ?_⟩
    rw [List.nil_append, scan_nl _ _ _ _ _ rfl, pre_nil _ (scanG_err _ _ _ _)]
  · intro cm b r l c e ih ts h
    rw [scan_nl _ _ _ _ _ e] at h
    rw [List.cons_append, scan_nl _ _ _ _ _ e]
    exact ih ts h
  · intro cm b r l c e e2 ih ts h
    rw [scan_comment _ _ _ _ _ e e2] at h
    rw [List.cons_append, scan_comment _ _ _ _ _ e e2]
    exact ih ts h
  · intro b r l c e e2 e3 ih ts h
    rw [scan_blank _ _ _ _ e e2 e3] at h
    rw [List.cons_append, scan_blank _ _ _ _ e e2 e3]
    exact ih ts h
  · intro b r l c e e2 ih ts h
    rw [scan_tok _ _ _ _ e e2] at h
    obtain ⟨h0, ts', h1, rfl⟩ := scanT_ok h rfl
    obtain ⟨init, e', rfl, h3⟩ := ih h0 (rtok_kind b r l c) ts' h1
    refine ⟨(rtok (b :: r) l c).1 :: init, e', rfl, ?_⟩
    have hm := rtok_more b r x l c h0
    rw [List.cons_append] at hm
    rw [List.cons_append, scan_tok _ _ _ _ e e2, scanT, hm, if_neg (by omega), if_neg (rtok_kind b r l c), ← List.cons_append, List.drop_append_of_le_length (rtok_le _ _ _), h3, pre_pre]
    rfl

def Tk.down (d : Nat) (t : Tk) : Tk := ⟨t.kind, t.text, t.line + d, t.col⟩
theorem rtok_down (d : Nat) (b : UInt8) (r : List UInt8) (l c : Nat) (h : (rtok (b :: r) l c).2.1.2.2 = 0) : rtok (b :: r) (l + d) c = ((rtok (b :: r) l c).1.down d, (0, 0, 0), (rtok (b :: r) l c).2.2) := by
  rw [rtok] at h ⊢
  rw [rtok]
  split
  · rename_i hl
    rw [if_pos hl] at h
    split
    · rename_i h2; rw [if_pos h2] at h; simp at h
    · rfl
  · rename_i hl
    rw [if_neg hl] at h
    split
    · rename_i hq
      rw [if_pos hq] at h
      cases e : (rlit b (r.length + 1) r).1 with
      | none => rw [e] at h; simp at h
      | some t =>
        rw [e] at h
        simp only at h ⊢
        split
        · rename_i h2; rw [if_pos h2] at h; simp at h
        · rename_i h2
          rw [if_neg h2] at h
          split
          · rename_i h3; rw [if_pos h3] at h; simp at h
          · rfl
    · rename_i hq
      rw [if_neg hq] at h
      split
      · rfl
      · rename_i hs; rw [if_neg hs] at h; simp at h
theorem scan_down (d : Nat) (cm : Bool) (s : List UInt8) (l c : Nat) : ∀ ts, scanG cm s l c = (ts, (0, 0, 0)) → scanG cm s (l + d) c = (ts.map (Tk.down d), (0, 0, 0)) := by
  refine scan_fine (fun cm s l c => ∀ ts, scanG cm s l c = (ts, (0, 0, 0)) → scanG cm s (l + d) c = (ts.map (Tk.down d), (0, 0, 0))) ?_ ?_ ?_ ?_ ?_ s.length cm s l c (Nat.le_refl _)
  · intro cm l c ts h
    rw [scan_end] at h ⊢
    rw [← (Prod.mk.inj h).1]
    rfl
  · intro cm b r l c e ih ts h
    rw [scan_nl _ _ _ _ _ e] at h ⊢
    rw [Nat.add_right_comm]
    exact ih ts h
  · intro cm b r l c e e2 ih ts h
    rw [scan_comment _ _ _ _ _ e e2] at h ⊢
    exact ih ts h
  · intro b r l c e e2 e3 ih ts h
    rw [scan_blank _ _ _ _ e e2 e3] at h ⊢
    exact ih ts h
  · intro b r l c e e2 ih ts h
    rw [scan_tok _ _ _ _ e e2] at h ⊢
    obtain ⟨h0, ts', h1, rfl⟩ := scanT_ok h rfl
    have h3 := ih h0 (rtok_kind b r l c) ts' h1
    rw [scanT, rtok_down d b r l c h0, if_neg (by simp), if_neg (by exact rtok_kind b r l c)]
    simp only
    rw [h3]
    rfl

end Go.Proofs.Ytakihbjfkpebcaa.Lx
