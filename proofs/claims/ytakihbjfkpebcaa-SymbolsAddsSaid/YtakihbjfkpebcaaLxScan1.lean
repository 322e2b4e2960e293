/-
  Places, and what is flat; names and literals as texts of their own.
-/
import Derived.Test.YtakihbjfkpebcaaLxScan0
namespace Go.Proofs.Ytakihbjfkpebcaa.Lx
open Go.RowKit
set_option maxRecDepth 100000

/-- The place behind a text. -/
def plc : List UInt8 → Nat → Nat → Nat × Nat
  | [], l, c => (l, c)
  | b :: r, l, c => if b.toNat = 10 then plc r (l + 1) 1 else plc r l (c + 1)
theorem plc_append : ∀ (a b : List UInt8) (l c : Nat), plc (a ++ b) l c = plc b (plc a l c).1 (plc a l c).2
  | [], b, l, c => rfl
  | x :: a, b, l, c => by
    rw [List.cons_append, plc, plc]
    split
    · exact plc_append a b _ _
    · exact plc_append a b _ _
theorem plc_flat : ∀ (a : List UInt8) (l c : Nat), (∀ b ∈ a, b.toNat ≠ 10) → plc a l c = (l, c + a.length)
  | [], l, c, _ => rfl
  | x :: a, l, c, h => by
    rw [plc, if_neg (h x (by simp)), plc_flat a l (c + 1) (fun b hb => h b (by simp [hb]))]
    simp only [List.length_cons]
    congr 1; omega
theorem plc_bd : ∀ (a : List UInt8) (l c : Nat), 1 ≤ c → (plc a l c).1 ≤ l + a.length ∧ (plc a l c).2 ≤ c + a.length ∧ 1 ≤ (plc a l c).2
  | [], l, c, h => by simp [plc]; omega
  | x :: a, l, c, h => by
    rw [plc]
    split
    · have := plc_bd a (l + 1) 1 (by omega)
      simp only [List.length_cons]; omega
    · have := plc_bd a l (c + 1) (by omega)
      simp only [List.length_cons]; omega
theorem rskip_bd : ∀ (a : List UInt8) (cm : Bool) (l c : Nat), 1 ≤ c → (rskip cm a l c).1 ≤ a.length ∧ (rskip cm a l c).2.1 ≤ l + (rskip cm a l c).1 ∧ (rskip cm a l c).2.2 ≤ c + (rskip cm a l c).1 ∧ 1 ≤ (rskip cm a l c).2.2
  | [], cm, l, c, h => by simp [rskip]; omega
  | x :: a, cm, l, c, h => by
    have h1 := rskip_bd a false (l + 1) 1 (by omega)
    have h2 := rskip_bd a true l (c + 1) (by omega)
    have h3 := rskip_bd a false l (c + 1) (by omega)
    rw [rskip]
    split
    · simp only [List.length_cons]; omega
    · split
      · simp only [List.length_cons]; omega
      · split
        · simp only [List.length_cons]; omega
        · simp only [List.length_cons]; omega

def Flat (a : List UInt8) : Prop := ∀ b ∈ a, b.toNat ≠ 10
theorem flat_cons {b : UInt8} {a : List UInt8} (h : b.toNat ≠ 10) (k : Flat a) : Flat (b :: a) := fun x hx => by
  rcases List.mem_cons.1 hx with rfl | hx
  · exact h
  · exact k x hx
theorem flat_nil : Flat [] := fun _ h => absurd h (by simp)
theorem flat_take_succ {b : UInt8} {a : List UInt8} {n : Nat} (h : b.toNat ≠ 10) (k : Flat (a.take n)) : Flat ((b :: a).take (1 + n)) := by
  rw [Nat.add_comm, List.take_succ_cons]; exact flat_cons h k
theorem flat_append {a b : List UInt8} (h : Flat a) (k : Flat b) : Flat (a ++ b) := fun x hx => by
  rcases List.mem_append.1 hx with hx | hx
  · exact h x hx
  · exact k x hx
theorem plain_flat {b : UInt8} (h : plainN b.toNat = true) : b.toNat ≠ 10 := by intro e; rw [e] at h; simp [plainN] at h
theorem name_flat {b : UInt8} (h : nameN b.toNat = true) : b.toNat ≠ 10 := by intro e; rw [e] at h; simp [nameN] at h
theorem rdig_flat (s : List UInt8) : Flat (s.take (rdig s).2.2) := by
  cases s with
  | nil => exact flat_nil
  | cons c r =>
    rw [rdig]
    cases hx : hexN c.toNat with
    | none => exact flat_nil
    | some d =>
      simp only [List.take_succ_cons, List.take_zero]
      refine flat_cons ?_ flat_nil
      intro e
      rw [e] at hx
      simp [hexN] at hx
theorem rdig_le1 (s : List UInt8) (h : (rdig s).2.1 = true) : (rdig s).2.2 = 1 := by
  obtain ⟨d, e, _, _⟩ := rdig_yes s h; rw [e]
theorem rpair_flat (s : List UInt8) : Flat (s.take (rpair s).2.2) := by
  unfold rpair
  split
  · rename_i h
    have h1 := rdig_flat s
    rw [rdig_le1 s h] at h1
    have h2 := rdig_flat (s.drop 1)
    simp only
    rw [List.take_add]
    exact flat_append h1 h2
  · exact flat_nil
theorem resc_flat (s : List UInt8) : Flat (s.take (resc s).2.2) := by
  cases s with
  | nil => exact flat_nil
  | cons c r =>
    rw [resc]
    split
    · exact flat_cons (by omega) flat_nil
    · split
      · exact flat_cons (by omega) flat_nil
      · split
        · exact flat_cons (by omega) flat_nil
        · split
          · exact flat_take_succ (by omega) (rpair_flat r)
          · exact flat_nil
theorem rlit_flat (q : UInt8) : ∀ (f : Nat) (s : List UInt8), Flat (s.take (rlit q f s).2)
  | 0, s => by rw [rlit]; exact flat_nil
  | f + 1, [] => by rw [rlit]; exact flat_nil
  | f + 1, c :: r => by
    rw [rlit]
    split
    · exact flat_nil
    · rename_i hp
      have hp' := plain_flat (by simpa using hp)
      split
      · exact flat_cons hp' flat_nil
      · split
        · split
          · simp only
            rw [Nat.add_assoc, Nat.add_comm 1, List.take_succ_cons]
            refine flat_cons hp' ?_
            rw [List.take_add]
            exact flat_append (resc_flat r) (rlit_flat q f _)
          · exact flat_take_succ hp' (resc_flat r)
        · exact flat_take_succ hp' (rlit_flat q f r)
theorem take_run (s : List UInt8) : s.take (run s) = s.takeWhile (fun c => nameN c.toNat) := by
  unfold run
  exact (List.prefix_iff_eq_take.1 (List.takeWhile_prefix _)).symm
theorem run_flat (s : List UInt8) : Flat (s.take (run s)) := by
  rw [take_run]
  intro b hb
  exact name_flat (List.all_takeWhile (p := fun c : UInt8 => nameN c.toNat) |> fun h => List.all_eq_true.1 h b hb)
theorem rtok_flat (s : List UInt8) (l c : Nat) : Flat (s.take (rtok s l c).2.2) := by
  cases s with
  | nil => exact flat_nil
  | cons b r =>
    rw [rtok]
    split
    · rename_i hl
      have : Flat ((b :: r).take (nsz (b :: r))) := by
        rw [nsz, if_pos hl]; exact run_flat _
      split
      · exact this
      · exact this
    · split
      · rename_i hq
        have : Flat ((b :: r).take (1 + (rlit b (r.length + 1) r).2)) := flat_take_succ (by intro e; rw [e] at hq; simp [quoteN] at hq) (rlit_flat b _ r)
        split
        · exact this
        · split
          · exact this
          · split
            · exact this
            · exact this
      · split
        · rename_i hs
          exact flat_cons (by intro e; rw [e] at hs; simp [signN] at hs) flat_nil
        · exact flat_nil

/-- A blank, or nothing, behind. -/
def Open (s : List UInt8) : Prop := ∀ b r, s = b :: r → nameN b.toNat = false
theorem run_append (n s : List UInt8) (hn : ∀ b ∈ n, nameN b.toNat = true) (hs : Open s) : run (n ++ s) = n.length := by
  induction n with
  | nil =>
    cases s with
    | nil => rfl
    | cons b r => rw [List.nil_append, run, List.takeWhile_cons, if_neg (by rw [hs b r rfl]; simp)]
  | cons a n ih =>
    rw [List.cons_append, run, List.takeWhile_cons, if_pos (hn a (by simp)), List.length_cons, List.length_cons]
    rw [← ih (fun b hb => hn b (by simp [hb]))]; rfl
/-- A name: its first byte, all of them. -/
def GoodL (n : List UInt8) : Prop := 0 < n.length ∧ n.length ≤ 32 ∧ (∀ b r, n = b :: r → letterN b.toNat = true) ∧ ∀ b ∈ n, nameN b.toNat = true
theorem rtok_name (n s : List UInt8) (l c : Nat) (hn : GoodL n) (hs : Open s) : rtok (n ++ s) l c = (⟨1, n, l, c⟩, (0, 0, 0), n.length) := by
  obtain ⟨h0, h32, hl, ha⟩ := hn
  have hr := run_append n s ha hs
  cases n with
  | nil => simp at h0
  | cons b r =>
    have hb := hl b r rfl
    rw [List.cons_append] at hr ⊢
    rw [rtok, if_pos hb, nsz, if_pos hb, hr, if_neg (by omega)]
    rw [← List.cons_append, List.take_left]
theorem letter_not {b : UInt8} (h : letterN b.toNat = true) : b.toNat ≠ 35 ∧ blankN b.toNat = false := by
  constructor
  · intro e; rw [e] at h; simp [letterN] at h
  · simp [letterN, blankN] at *; omega
theorem scan_name (n s : List UInt8) (l c : Nat) (hn : GoodL n) (hs : Open s) : scanG false (n ++ s) l c = pre [⟨1, n, l, c⟩] (scanG false s l (c + n.length)) := by
  have hr := rtok_name n s l c hn hs
  cases n with
  | nil => simp [GoodL] at hn
  | cons b r =>
    have hb := letter_not (hn.2.2.1 b r rfl)
    rw [List.cons_append] at hr ⊢
    rw [scan_tok b _ l c hb.1 hb.2, scanT, hr, if_neg (by simp), if_neg (by simp), ← List.cons_append, List.drop_left]
theorem scan_sign (b : UInt8) (s : List UInt8) (l c : Nat) (h : signN b.toNat = true) : scanG false (b :: s) l c = pre [⟨3, [b], l, c⟩] (scanG false s l (c + 1)) := by
  have h1 : b.toNat ≠ 35 := by intro e; rw [e] at h; simp [signN] at h
  have h2 : blankN b.toNat = false := by simp [signN, blankN] at *; omega
  have h3 : letterN b.toNat = false := by simp [signN, letterN] at *; omega
  have h4 : quoteN b.toNat = false := by simp [signN, quoteN] at *; omega
  have hr : rtok (b :: s) l c = (⟨3, [b], l, c⟩, (0, 0, 0), 1) := by rw [rtok, if_neg (by rw [h3]; simp), if_neg (by rw [h4]; simp), if_pos h]
  rw [scan_tok b _ l c h1 h2, scanT, hr, if_neg (by simp), if_neg (by simp)]
  rfl

def hexC (n : Nat) : UInt8 := if n < 10 then UInt8.ofNat (48 + n) else UInt8.ofNat (87 + n)
/-- A byte in a literal. -/
def qch (q : UInt8) (c : UInt8) : List UInt8 :=
  if c.toNat = 10 then [92, 110] else if c.toNat = 9 then [92, 116] else if c.toNat = 92 ∨ c = q then [92, c] else if plainN c.toNat = true then [c] else [92, 120, hexC (c.toNat / 16), hexC (c.toNat % 16)]
def qbody (q : UInt8) (s : List UInt8) : List UInt8 := s.flatMap (qch q)
theorem hexN_hexC : ∀ n : Fin 16, hexN (hexC n.val).toNat = some n.val := by decide
theorem rdig_hexC (n : Nat) (h : n < 16) (r : List UInt8) : rdig (hexC n :: r) = (n, true, 1) := by
  rw [rdig, hexN_hexC ⟨n, h⟩]
theorem resc_qch (q c : UInt8) (r : List UInt8) (hq : q.toNat = 39 ∨ q.toNat = 34) (h : c.toNat = 10 ∨ c.toNat = 9 ∨ c.toNat = 92 ∨ c = q ∨ plainN c.toNat = false) :
    ∃ x, qch q c = 92 :: x ∧ resc (x ++ r) = (c.toNat, true, x.length) := by
  unfold qch
  by_cases h1 : c.toNat = 10
  · exact ⟨[110], by rw [if_pos h1], by rw [h1]; rfl⟩
  rw [if_neg h1]
  by_cases h2 : c.toNat = 9
  · exact ⟨[116], by rw [if_pos h2], by rw [h2]; rfl⟩
  rw [if_neg h2]
  by_cases h3 : c.toNat = 92 ∨ c = q
  · refine ⟨[c], by rw [if_pos h3], ?_⟩
    rw [List.cons_append, resc, if_pos]
    · rfl
    · rcases h3 with h3 | h3
      · exact .inl h3
      · rw [h3]; omega
  rw [if_neg h3]
  have hp : plainN c.toNat = false := by
    rcases h with h | h | h | h | h
    · exact absurd h h1
    · exact absurd h h2
    · exact absurd (.inl h) h3
    · exact absurd (.inr h) h3
    · exact h
  rw [if_neg (by rw [hp]; simp)]
  have hlt := c.toNat_lt
  refine ⟨[120, hexC (c.toNat / 16), hexC (c.toNat % 16)], rfl, ?_⟩
  have e : rpair (hexC (c.toNat / 16) :: hexC (c.toNat % 16) :: r) = (c.toNat, true, 2) := by
    rw [rpair, rdig_hexC _ (by omega), if_pos rfl]
    rw [List.drop_succ_cons, List.drop_zero, rdig_hexC _ (by omega)]
    simp only
    congr 1
    omega
  show resc (120 :: hexC (c.toNat / 16) :: hexC (c.toNat % 16) :: r) = _
  rw [resc, e, if_neg (by decide), if_neg (by decide), if_neg (by decide), if_pos (by decide)]
  rfl
theorem u8_ofNat (c : UInt8) : UInt8.ofNat c.toNat = c := by simp
theorem rlit_quoted (q : UInt8) (hq : q.toNat = 39 ∨ q.toNat = 34) (rest : List UInt8) : ∀ (s : List UInt8) (f : Nat), (qbody q s ++ q :: rest).length < f → rlit q f (qbody q s ++ q :: rest) = (some s, (qbody q s).length + 1)
  | [], f, h => by
    obtain ⟨f, rfl⟩ : ∃ k, f = k + 1 := ⟨f - 1, by omega⟩
    show rlit q (f + 1) (q :: rest) = _
    rw [rlit, if_neg (by rcases hq with h | h <;> rw [h] <;> simp [plainN]), if_pos rfl]
    rfl
  | c :: s, f, h => by
    obtain ⟨f, rfl⟩ : ∃ k, f = k + 1 := ⟨f - 1, by omega⟩
    have e0 : qbody q (c :: s) ++ q :: rest = qch q c ++ (qbody q s ++ q :: rest) := by simp [qbody]
    have el : (qbody q (c :: s)).length = (qch q c).length + (qbody q s).length := by simp [qbody]
    rw [e0] at h ⊢
    rw [el]
    have q92 : (92 : UInt8) ≠ q := by intro e; rw [← e] at hq; revert hq; decide
    by_cases hc : c.toNat = 10 ∨ c.toNat = 9 ∨ c.toNat = 92 ∨ c = q ∨ plainN c.toNat = false
    · obtain ⟨x, hx, hr⟩ := resc_qch q c (qbody q s ++ q :: rest) hq hc
      rw [hx] at h ⊢
      rw [List.cons_append] at h ⊢
      have ih := rlit_quoted q hq rest s f (by simp only [List.length_cons, List.length_append] at h ⊢; omega)
      rw [rlit, if_neg (by decide), if_neg q92, if_pos (by decide), hr, if_pos rfl]
      simp only [List.drop_left, ih, List.length_cons, u8_ofNat, Option.map_some]
      congr 1
      omega
    · have h10 : c.toNat ≠ 10 := fun e => hc (.inl e)
      have h9 : c.toNat ≠ 9 := fun e => hc (.inr (.inl e))
      have h92 : c.toNat ≠ 92 := fun e => hc (.inr (.inr (.inl e)))
      have hcq : c ≠ q := fun e => hc (.inr (.inr (.inr (.inl e))))
      have hp : plainN c.toNat = true := by
        cases h : plainN c.toNat
        · exact absurd (.inr (.inr (.inr (.inr h)))) hc
        · rfl
      have hx : qch q c = [c] := by
        unfold qch; rw [if_neg h10, if_neg h9, if_neg (by rintro (h | h); exact h92 h; exact hcq h), if_pos hp]
      rw [hx] at h ⊢
      rw [List.cons_append, List.nil_append] at h ⊢
      have ih := rlit_quoted q hq rest s f (by simp only [List.length_cons] at h ⊢; omega)
      rw [rlit, if_neg (by rw [hp]; simp), if_neg hcq, if_neg h92, ih]
      simp only [Option.map_some, List.length_cons, List.length_nil]
      congr 1
      try omega

/-- A literal's text. -/
def quoteL (q : UInt8) (s : List UInt8) : List UInt8 := q :: (qbody q s ++ [q])
theorem rtok_quoted (q : UInt8) (hq : q.toNat = 39 ∨ q.toNat = 34) (s rest : List UInt8) (l c : Nat) : rtok (quoteL q s ++ rest) l c =
    if s = [] then (.zero, (l, c, 2), (quoteL q s).length) else if 16 < s.length then (.zero, (l, c, 6), (quoteL q s).length) else (⟨2, s, l, c⟩, (0, 0, 0), (quoteL q s).length) := by
  have hqn : quoteN q.toNat = true := by rcases hq with h | h <;> rw [h] <;> rfl
  have hln : letterN q.toNat = false := by rcases hq with h | h <;> rw [h] <;> rfl
  have e : quoteL q s ++ rest = q :: (qbody q s ++ q :: rest) := by simp [quoteL]
  have el : (quoteL q s).length = 1 + ((qbody q s).length + 1) := by simp [quoteL]; omega
  have hl := rlit_quoted q hq rest s ((qbody q s ++ q :: rest).length + 1) (by omega)
  rw [e, el, rtok, if_neg (by rw [hln]; simp), if_pos hqn, hl]
theorem quote_not {q : UInt8} (hq : q.toNat = 39 ∨ q.toNat = 34) : q.toNat ≠ 35 ∧ blankN q.toNat = false := by
  rcases hq with h | h <;> rw [h] <;> exact ⟨by decide, rfl⟩
theorem scan_quoted (q : UInt8) (hq : q.toNat = 39 ∨ q.toNat = 34) (s rest : List UInt8) (l c : Nat) (h0 : s ≠ []) (h16 : s.length ≤ 16) :
    scanG false (quoteL q s ++ rest) l c = pre [⟨2, s, l, c⟩] (scanG false rest l (c + (quoteL q s).length)) := by
  have hr := rtok_quoted q hq s rest l c
  rw [if_neg h0, if_neg (by omega)] at hr
  have e : quoteL q s ++ rest = q :: (qbody q s ++ [q] ++ rest) := by simp [quoteL]
  have hn := quote_not hq
  rw [e, scan_tok q _ l c hn.1 hn.2, ← e, scanT, hr, if_neg (by simp), if_neg (by simp), List.drop_left]
theorem scan_quoted_bad (q : UInt8) (hq : q.toNat = 39 ∨ q.toNat = 34) (s rest : List UInt8) (l c : Nat) (h : s = [] ∨ 16 < s.length) :
    ∃ k, k ≠ 0 ∧ k < 7 ∧ scanG false (quoteL q s ++ rest) l c = ([], (l, c, k)) := by
  have hr := rtok_quoted q hq s rest l c
  have e : quoteL q s ++ rest = q :: (qbody q s ++ [q] ++ rest) := by simp [quoteL]
  have hn := quote_not hq
  rw [e, scan_tok q _ l c hn.1 hn.2, ← e, scanT, hr]
  by_cases h0 : s = []
  · exact ⟨2, by omega, by omega, by rw [if_pos h0, if_pos (by simp)]⟩
  · have h2 : 16 < s.length := by
      rcases h with h | h
      · exact absurd h h0
      · exact h
    exact ⟨6, by omega, by omega, by rw [if_neg h0, if_pos h2, if_pos (by simp)]⟩

end Go.Proofs.Ytakihbjfkpebcaa.Lx
