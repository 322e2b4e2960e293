/-
  The texts of SyntaxBounds and what Parse tells of them.
-/
import Derived.Test.YtogddlcalhjlpaaSxCodes
import Derived.Test.YtogddlcalhjlpaaLxScan
namespace Go.Proofs.Ytogddlcalhjlpaa.Sx
open Lx (Tk)
set_option maxRecDepth 100000

/-- A blank and a b, m times, and a semicolon. -/
def repB : Nat → List UInt8
  | 0 => [59]
  | m + 1 => 32 :: 98 :: repB m
def toksB : Nat → Nat → List Tk
  | 0, c => [⟨3, [59], 1, c⟩, ⟨4, [], 1, c + 1⟩]
  | m + 1, c => ⟨1, [98], 1, c + 1⟩ :: toksB m (c + 2)
theorem open_rep (m : Nat) : Lx.Open (repB m) := by
  intro b r e
  cases m with
  | zero => injection e with e1 _; rw [← e1]; decide
  | succ m => injection e with e1 _; rw [← e1]; decide
theorem scan_rep : ∀ (m c : Nat), Lx.scanG false (repB m) 1 c = (toksB m c, (0, 0, 0))
  | 0, c => by
    rw [repB, Lx.scan_sign 59 [] 1 c (by decide), Lx.scan_end]
    rfl
  | m + 1, c => by
    have h := Lx.scan_name [98] (repB m) 1 (c + 1) ⟨by decide, by decide, fun b r e => by injection e with e1 _; rw [← e1]; decide, fun b hb => by rw [List.mem_singleton.1 hb]; decide⟩ (open_rep m)
    rw [repB, Lx.scan_blank 32 _ 1 c (by decide) (by decide) (by decide)]
    rw [show (98 :: repB m) = [98] ++ repB m from rfl, h, show c + 1 + ([98] : List UInt8).length = c + 2 from rfl, scan_rep m (c + 2)]
    rfl
theorem len_rep : ∀ m : Nat, (repB m).length = 2 * m + 1
  | 0 => rfl
  | m + 1 => by rw [repB, List.length_cons, List.length_cons, len_rep m]; omega
def txtB (m : Nat) : List UInt8 := 97 :: 58 :: repB m
def tsB (m : Nat) : List Tk := ⟨1, [97], 1, 1⟩ :: ⟨3, [58], 1, 2⟩ :: toksB m 3
theorem scan_big (m : Nat) (h : m ≤ 5000) : Lx.scanS (txtB m) = (tsB m, (0, 0, 0)) := by
  have hl : (txtB m).length ≤ 65536 := by rw [txtB, List.length_cons, List.length_cons, len_rep]; omega
  have hn := Lx.scan_name [97] (58 :: repB m) 1 1 ⟨by decide, by decide, fun b r e => by injection e with e1 _; rw [← e1]; decide, fun b hb => by rw [List.mem_singleton.1 hb]; decide⟩ (fun b r e => by injection e with e1 _; rw [← e1]; decide)
  rw [Lx.scanS, if_neg (by omega), txtB, show (97 :: 58 :: repB m) = [97] ++ 58 :: repB m from rfl, hn, show 1 + ([97] : List UInt8).length = 2 from rfl, Lx.scan_sign 58 _ 1 2 (by decide), scan_rep m 3]
  rfl
theorem toksB_at : ∀ (m c i : Nat), (i < m → (tkAt (toksB m c) i).kind = 1 ∧ (tkAt (toksB m c) i).text = [98]) ∧ (i = m → (tkAt (toksB m c) i).kind = 3 ∧ (tkAt (toksB m c) i).text = [59]) ∧ (m < i → (tkAt (toksB m c) i).kind = 4) ∧ (i ≤ m → (tkAt (toksB m c) i).line = 1)
  | 0, c, 0 => ⟨fun h => absurd h (by omega), fun _ => ⟨rfl, rfl⟩, fun h => absurd h (by omega), fun _ => rfl⟩
  | 0, c, 1 => ⟨fun h => absurd h (by omega), fun h => absurd h (by omega), fun _ => rfl, fun h => absurd h (by omega)⟩
  | 0, c, i + 2 => ⟨fun h => absurd h (by omega), fun h => absurd h (by omega), fun _ => rfl, fun h => absurd h (by omega)⟩
  | m + 1, c, 0 => ⟨fun _ => ⟨rfl, rfl⟩, fun h => absurd h (by omega), fun h => absurd h (by omega), fun _ => rfl⟩
  | m + 1, c, i + 1 => by
    obtain ⟨h1, h2, h3, h4⟩ := toksB_at m (c + 2) i
    have e : tkAt (toksB (m + 1) c) (i + 1) = tkAt (toksB m (c + 2)) i := rfl
    rw [e]
    exact ⟨fun h => h1 (by omega), fun h => h2 (by omega), fun h => h3 (by omega), fun h => h4 (by omega)⟩
theorem tsB_at (m i : Nat) : tkAt (tsB m) (i + 2) = tkAt (toksB m 3) i := rfl
/-- No sign at index i. -/
theorem no_sg {ts : List Tk} {i : Nat} (c : UInt8) (h : (tkAt ts i).kind ≠ 3 ∨ (tkAt ts i).text ≠ [c]) : isSg ts i c = false := by
  unfold isSg
  rw [Bool.and_eq_false_iff]
  exact h.imp (fun h => decide_eq_false h) (fun h => decide_eq_false h)

/-- All names, up to the semicolon: few enough. -/
theorem items_big (m : Nat) (hm : m ≤ 4093) : ∀ (k i f : Nat) (acc : List Tree), i + k = m → ∃ t, pItems (tsB m) (f + 4 + k) 0 (i + 2) acc = some (.ok t (m + 2))
  | 0, i, f, acc, h => by
    obtain ⟨_, h2, _, _⟩ := toksB_at m 3 i
    obtain ⟨e1, e2⟩ := h2 (by omega)
    rw [← tsB_at] at e1 e2
    have hs : starts (tsB m) (i + 2) = false := by
      unfold starts clos
      rw [no_sg 40 (.inr (by rw [e2]; decide)), no_sg 91 (.inr (by rw [e2]; decide)), no_sg 123 (.inr (by rw [e2]; decide)), e1]
      rfl
    rw [show f + 4 + 0 = (f + 3) + 1 from rfl, pItems, if_neg (by rw [hs]; decide)]
    exact ⟨_, by rw [show i + 2 = m + 2 by omega]⟩
  | k + 1, i, f, acc, h => by
    obtain ⟨h1, _, _, _⟩ := toksB_at m 3 i
    obtain ⟨e1, e2⟩ := h1 (by omega)
    rw [← tsB_at] at e1 e2
    have hs : starts (tsB m) (i + 2) = true := by unfold starts; rw [e1]; rfl
    have htk : tak (tsB m) (i + 2) = .ok () (i + 3) := by
      unfold tak
      rw [if_neg]
      rintro ⟨h3, h4⟩
      omega
    have hno : ∀ c : UInt8, c ≠ 59 → isSg (tsB m) (i + 3) c = false := by
      intro c hc
      obtain ⟨g1, g2, _, _⟩ := toksB_at m 3 (i + 1)
      have e : tkAt (tsB m) (i + 3) = tkAt (toksB m 3) (i + 1) := rfl
      rcases Nat.lt_or_ge (i + 1) m with h5 | h5
      · exact no_sg c (.inl (by rw [e, (g1 h5).1]; decide))
      · exact no_sg c (.inr (by rw [e, (g2 (by omega)).2]; intro h6; injection h6 with h6; exact hc h6.symm))
    obtain ⟨t, ht⟩ := items_big m hm k (i + 1) f (acc ++ [.node 1 [98] []]) (by omega)
    refine ⟨t, ?_⟩
    rw [show f + 4 + (k + 1) = (f + 4 + k) + 1 by omega, pItems, if_pos hs]
    rw [show pItem (tsB m) (f + 4 + k) 0 (i + 2) = some (.ok (.node 1 [98] []) (i + 3)) by
      rw [show f + 4 + k = (f + k + 2) + 1 + 1 by omega, pItem, pAtom, if_pos e1, htk, e2]
      show (if isSg (tsB m) (i + 3) 42 = true then _ else _) = _
      rw [if_neg (by rw [hno 42 (by decide)]; decide), if_neg (by rw [hno 43 (by decide)]; decide), if_neg (by rw [hno 63 (by decide)]; decide)]]
    exact ht
/-- Too many names. -/
theorem items_long (m : Nat) (hm : 4094 ≤ m) : ∀ (k i f : Nat) (acc : List Tree), i + k = 4093 → ∃ c, pItems (tsB m) (f + 4 + k) 0 (i + 2) acc = some (.no 1 c 6)
  | 0, i, f, acc, h => by
    obtain ⟨h1, _, _, _⟩ := toksB_at m 3 i
    obtain ⟨e1, e2⟩ := h1 (by omega)
    rw [← tsB_at] at e1 e2
    have hs : starts (tsB m) (i + 2) = true := by unfold starts; rw [e1]; rfl
    have hk4 : (tkAt (tsB m) (i + 3)).kind ≠ 4 ∧ (tkAt (tsB m) (i + 3)).line = 1 := by
      obtain ⟨g1, g2, _, g4⟩ := toksB_at m 3 (i + 1)
      have e : tkAt (tsB m) (i + 3) = tkAt (toksB m 3) (i + 1) := rfl
      rw [e]
      refine ⟨?_, g4 (by omega)⟩
      rcases Nat.lt_or_ge (i + 1) m with h5 | h5
      · rw [(g1 h5).1]; decide
      · rw [(g2 (by omega)).1]; decide
    have htk : tak (tsB m) (i + 2) = .no 1 (tkAt (tsB m) (i + 3)).col 6 := by
      unfold tak
      rw [if_pos ⟨by omega, hk4.1⟩]
      unfold Res.bad
      rw [hk4.2]
    refine ⟨(tkAt (tsB m) (i + 3)).col, ?_⟩
    rw [show f + 4 + 0 = (f + 3) + 1 from rfl, pItems, if_pos hs]
    rw [show f + 3 = (f + 1) + 1 + 1 from rfl, pItem, pAtom, if_pos e1, htk]
    rfl
  | k + 1, i, f, acc, h => by
    obtain ⟨h1, _, _, _⟩ := toksB_at m 3 i
    obtain ⟨e1, e2⟩ := h1 (by omega)
    rw [← tsB_at] at e1 e2
    have hs : starts (tsB m) (i + 2) = true := by unfold starts; rw [e1]; rfl
    have htk : tak (tsB m) (i + 2) = .ok () (i + 3) := by
      unfold tak
      rw [if_neg]
      rintro ⟨h3, h4⟩
      omega
    have hno : ∀ c : UInt8, isSg (tsB m) (i + 3) c = false := by
      intro c
      obtain ⟨g1, g2, _, _⟩ := toksB_at m 3 (i + 1)
      have e : tkAt (tsB m) (i + 3) = tkAt (toksB m 3) (i + 1) := rfl
      exact no_sg c (.inl (by rw [e, (g1 (by omega)).1]; decide))
    obtain ⟨t, ht⟩ := items_long m hm k (i + 1) f (acc ++ [.node 1 [98] []]) (by omega)
    refine ⟨t, ?_⟩
    rw [show f + 4 + (k + 1) = (f + 4 + k) + 1 by omega, pItems, if_pos hs]
    rw [show pItem (tsB m) (f + 4 + k) 0 (i + 2) = some (.ok (.node 1 [98] []) (i + 3)) by
      rw [show f + 4 + k = (f + k + 2) + 1 + 1 by omega, pItem, pAtom, if_pos e1, htk, e2]
      show (if isSg (tsB m) (i + 3) 42 = true then _ else _) = _
      rw [if_neg (by rw [hno 42]; decide), if_neg (by rw [hno 43]; decide), if_neg (by rw [hno 63]; decide)]]
    exact ht
theorem head_big (m : Nat) : isSg (tsB m) 0 37 = false ∧ nam (tsB m) 0 = .ok [97] 1 ∧ need (tsB m) 1 58 = .ok () 2 := by
  refine ⟨rfl, ?_, ?_⟩
  · unfold nam
    rw [if_pos (show (tkAt (tsB m) 0).kind = 1 from rfl)]
    rfl
  · unfold need
    rw [if_pos (show isSg (tsB m) 1 58 = true from rfl)]
    rfl
theorem parse_few (m : Nat) (hm : m ≤ 4093) : ∃ G j, parseT (tsB m) = .ok G j ∧ G.rules.length = 1 := by
  obtain ⟨h1, h2, h3⟩ := head_big m
  obtain ⟨t, ht⟩ := items_big m hm m 0 0 [] (by omega)
  obtain ⟨_, g2, g3, _⟩ := toksB_at m 3 m
  obtain ⟨e1, e2⟩ := g2 rfl
  have k1 : isSg (tsB m) (m + 2) 59 = true := by unfold isSg; rw [tsB_at, e1, e2]; rfl
  have k2 : isSg (tsB m) (m + 2) 124 = false := no_sg _ (.inr (by rw [tsB_at, e2]; decide))
  have k4 : (tkAt (tsB m) (m + 3)).kind = 4 := (toksB_at m 3 (m + 1)).2.2.1 (by omega)
  have kn : need (tsB m) (m + 2) 59 = .ok () (m + 3) := by
    unfold need
    rw [if_pos k1]
    unfold tak
    rw [if_neg]
    rintro ⟨_, h5⟩
    exact h5 k4
  refine ⟨⟨[97], [([97], t)]⟩, m + 3, parseT_of (F := (4 + m + 1 + 1) + 1) ?_, rfl⟩
  unfold pGram
  rw [if_neg (by rw [h1]; decide)]
  have hr : pRule (tsB m) (4 + m + 1 + 1) 0 = some (.ok ([97], t) (m + 3)) := by
    unfold pRule
    rw [h2]
    dsimp only [Res.bind]
    rw [h3]
    dsimp only [Res.bind]
    rw [show pAlt (tsB m) (4 + m + 1 + 1) 0 2 = some (.ok t (m + 2)) by
      rw [pAlt, pRow]
      rw [show (0 : Nat) + 4 + m = 4 + m by omega, show (0 : Nat) + 2 = 2 from rfl] at ht
      rw [ht]
      show pMore (tsB m) (4 + m + 1) 0 (m + 2) [t] = _
      rw [pMore, if_neg (by rw [k2]; decide)]
      rfl]
    dsimp only [Option.bind, Res.bind]
    rw [kn]
  have hrs : pRules (tsB m) ((4 + m + 1 + 1) + 1) 0 [] = some (.ok [([97], t)] (m + 3)) := by
    rw [pRules, if_pos (.inl rfl), if_neg (by simp), hr]
    show pRules (tsB m) (4 + m + 1 + 1) (m + 3) [([97], t)] = _
    rw [pRules, if_neg (by rw [k4]; simp)]
  rw [hrs]
  rfl
theorem parse_many (m : Nat) (hm : 4094 ≤ m) : ∃ c, parseT (tsB m) = .no 1 c 6 := by
  obtain ⟨h1, h2, h3⟩ := head_big m
  obtain ⟨c, hc⟩ := items_long m hm 4093 0 0 [] (by omega)
  refine ⟨c, parseT_of (F := (4 + 4093 + 1 + 1) + 1) ?_⟩
  unfold pGram
  rw [if_neg (by rw [h1]; decide)]
  have hr : pRule (tsB m) (4 + 4093 + 1 + 1) 0 = some (.no 1 c 6) := by
    unfold pRule
    rw [h2]
    dsimp only [Res.bind]
    rw [h3]
    dsimp only [Res.bind]
    rw [show pAlt (tsB m) (4 + 4093 + 1 + 1) 0 2 = some (.no 1 c 6) by
      rw [pAlt, pRow]
      rw [show (0 : Nat) + 4 + 4093 = 4 + 4093 from rfl, show (0 : Nat) + 2 = 2 from rfl] at hc
      rw [hc]
      rfl]
    rfl
  rw [pRules, if_pos (.inl rfl), if_neg (by simp), hr]
  rfl
/-- Rules, n of them. -/
def repA : Nat → List UInt8
  | 0 => []
  | n + 1 => 97 :: 58 :: 59 :: repA n
def repC (c : UInt8) : Nat → List UInt8
  | 0 => []
  | n + 1 => c :: repC c n
theorem repA_len : ∀ n : Nat, (repA n).length = 3 * n
  | 0 => rfl
  | n + 1 => by rw [repA, List.length_cons, List.length_cons, List.length_cons, repA_len n]; omega
theorem repA_snoc : ∀ n : Nat, repA (n + 1) = repA n ++ [97, 58, 59]
  | 0 => rfl
  | n + 1 => by
    show 97 :: 58 :: 59 :: repA (n + 1) = (97 :: 58 :: 59 :: repA n) ++ [97, 58, 59]
    rw [repA_snoc n]
    rfl
theorem repC_len (c : UInt8) : ∀ n : Nat, (repC c n).length = n
  | 0 => rfl
  | n + 1 => by rw [repC, List.length_cons, repC_len c n]
theorem repC_snoc (c : UInt8) : ∀ n : Nat, repC c (n + 1) = repC c n ++ [c]
  | 0 => rfl
  | n + 1 => by
    show c :: repC c (n + 1) = (c :: repC c n) ++ [c]
    rw [repC_snoc c n]
    rfl
/-- The bytes ahead of the semicolon, m times. -/
def repH : Nat → List UInt8
  | 0 => []
  | m + 1 => 32 :: 98 :: repH m
theorem repH_len : ∀ n : Nat, (repH n).length = 2 * n
  | 0 => rfl
  | n + 1 => by rw [repH, List.length_cons, List.length_cons, repH_len n]; omega
theorem repH_snoc : ∀ n : Nat, repH (n + 1) = repH n ++ [32, 98]
  | 0 => rfl
  | n + 1 => by
    show 32 :: 98 :: repH (n + 1) = (32 :: 98 :: repH n) ++ [32, 98]
    rw [repH_snoc n]
    rfl
theorem repB_is : ∀ n : Nat, repB n = repH n ++ [59]
  | 0 => rfl
  | n + 1 => by rw [repB, repB_is n, repH]; rfl
theorem _root_.Go.Proofs.Ytogddlcalhjlpaa.Lx.bs_append' (a b : ByteArray) : Lx.bs (a ++ b) = Lx.bs a ++ Lx.bs b := by simp [Lx.bs]
/-- Brackets, n of them. -/
def txtC (n : Nat) : List UInt8 := 97 :: 58 :: (repC 40 n ++ 98 :: (repC 41 n ++ [59]))
end Go.Proofs.Ytogddlcalhjlpaa.Sx
