/-
  Layer 21: a command's bytes; Put, the program's.
-/
import Derived.Test.YtbkfbejbloclgaaCmC
namespace Go.Proofs.Ytbkfbejbloclgaa.Cm
open Go.RowKit
open Oct (pb bs Strs OutSt OSep app eInt eText eTexts eLen rng)
open Lx (goodB)
open Gn (Asks)
set_option maxRecDepth 100000
set_option linter.unusedSimpArgs false
set_option linter.unusedVariables false
/-- The bytes of the first k numbers. -/
def pNums (ns : List Int) : Nat → Option (List UInt8)
  | 0 => some []
  | k + 1 => app (pNums ns k) (eInt (ns.getD k 0))
/-- The bytes of a command, if it has any. -/
def putO (c : Cmd) : Option (List UInt8) := app (app (app (app (app (app (eInt c.kind) (eText (bs c.who))) (eText (bs c.nm))) (eText (bs c.oth))) (eText (bs c.txt))) (eTexts c.word)) (pNums [c.n0, c.n1, c.n2, c.n3] 4)
def qCmd (c : Cmd) : List UInt8 := pb c.kind ++ qText c.who ++ qText c.nm ++ qText c.oth ++ qText c.txt ++ qTexts c.word ++ pb c.n0 ++ pb c.n1 ++ pb c.n2 ++ pb c.n3
def putC (c : Cmd) : List UInt8 := if goodC c = true then qCmd c else []

theorem eInt_some (n : Int) (h : farB n = false) : eInt n = some (pb n) := by
  unfold eInt
  rw [if_neg]
  unfold rng
  unfold farB at h
  simpa using h
theorem eInt_low (n : Int) (h0 : 0 ≤ n) (h : n ≤ 9007199254740992) : eInt n = some (pb n) := eInt_some n (by unfold farB; rw [decide_eq_false (by omega), decide_eq_false (by omega)]; rfl)
theorem eLen_some (n : Nat) (h : n ≤ 65536) : eLen (n : Int) = some (pb (n : Int)) := by
  unfold eLen
  rw [if_neg (by omega)]
  exact eInt_low _ (by omega) (by omega)
theorem eText_some (s : ByteArray) (h : s.size ≤ 65536) : eText (bs s) = some (qText s) := by
  unfold eText qText
  rw [show (bs s).length = s.size from rfl, eLen_some _ h]
  rfl
theorem eStrs_some (ss : List ByteArray) (h : ∀ s ∈ ss, s.size ≤ 65536) (k : Nat) (hk : k ≤ ss.length) : Oct.eStrs ss k = some (qStrs (ss.take k)) := by
  induction k with
  | zero => rfl
  | succ k ih =>
    have hk' : k < ss.length := by omega
    rw [Oct.eStrs, ih (by omega), List.getD_eq_getElem?_getD, List.getElem?_eq_getElem hk', Option.getD_some, eText_some _ (h _ (List.getElem_mem _))]
    unfold qStrs
    rw [split_at qText ss k hk']
    rfl
theorem eTexts_some (ss : List ByteArray) (hn : ss.length ≤ 65536) (h : ∀ s ∈ ss, s.size ≤ 65536) : eTexts ss = some (qTexts ss) := by
  unfold eTexts qTexts
  rw [if_neg (by omega), eLen_some _ hn, eStrs_some ss h _ (Nat.le_refl _), List.take_length]
  rfl
theorem goodB_size {s : ByteArray} (h : goodB (bs s) = true) : s.size ≤ 32 := (of_decide_eq_true h).2.1
theorem maybeB_size {s : ByteArray} (h : maybeB (bs s) = true) : s.size ≤ 32 := by
  unfold maybeB at h
  rw [Bool.or_eq_true] at h
  rcases h with h | h
  · have h0 : bs s = [] := List.isEmpty_iff.1 h
    have : (bs s).length = 0 := by rw [h0]; rfl
    have : s.size = 0 := this
    omega
  · exact goodB_size h
structure GoodC (c : Cmd) : Prop where
  kind : 1 ≤ c.kind ∧ c.kind ≤ 18
  who : goodB (bs c.who) = true
  nm : maybeB (bs c.nm) = true
  oth : maybeB (bs c.oth) = true
  txt : c.txt.size ≤ 65536
  len : c.word.length ≤ 64
  word : ∀ s ∈ c.word, s.size ≤ 16
  n0 : farB c.n0 = false
  n1 : farB c.n1 = false
  n2 : farB c.n2 = false
  n3 : farB c.n3 = false
theorem goodC_iff (c : Cmd) : goodC c = true ↔ GoodC c := by
  unfold goodC longB
  constructor
  · intro h
    simp only [Bool.and_eq_true, Bool.not_eq_true', Bool.or_eq_false_iff, decide_eq_true_eq, List.any_eq_false] at h
    obtain ⟨⟨⟨⟨⟨⟨⟨⟨a, b⟩, c1⟩, d⟩, e⟩, f⟩, g⟩, i⟩, ⟨⟨j0, j1⟩, j2⟩, j3⟩ := h
    exact ⟨⟨a, b⟩, c1, d, e, f, g, fun s hs => by have := i s hs; omega, j0, j1, j2, j3⟩
  · rintro ⟨⟨a, b⟩, c1, d, e, f, g, i, j0, j1, j2, j3⟩
    simp only [Bool.and_eq_true, Bool.not_eq_true', Bool.or_eq_false_iff, decide_eq_true_eq, List.any_eq_false]
    exact ⟨⟨⟨⟨⟨⟨⟨⟨a, b⟩, c1⟩, d⟩, e⟩, f⟩, g⟩, fun s hs => by have := i s hs; omega⟩, ⟨⟨j0, j1⟩, j2⟩, j3⟩
theorem putO_good (c : Cmd) (h : goodC c = true) : putO c = some (qCmd c) := by
  have h := (goodC_iff c).1 h
  unfold putO qCmd
  rw [eInt_low _ (by have := h.kind; omega) (by have := h.kind; omega), eText_some _ (by have := goodB_size h.who; omega), eText_some _ (by have := maybeB_size h.nm; omega), eText_some _ (by have := maybeB_size h.oth; omega), eText_some _ h.txt, eTexts_some _ (by have := h.len; omega) (fun s hs => by have := h.word s hs; omega)]
  simp only [pNums, List.getD_cons_zero, List.getD_cons_succ, eInt_some _ h.n0, eInt_some _ h.n1, eInt_some _ h.n2, eInt_some _ h.n3, app, Option.some.injEq, List.append_assoc, List.nil_append]
theorem len_pNums (ns : List Int) (k : Nat) : Oct.len (pNums ns k) ≤ 8 * k := by
  induction k with
  | zero => simp [pNums, Oct.len]
  | succ k ih =>
    have := Oct.len_app (pNums ns k) (eInt (ns.getD k 0))
    have := Oct.len_eInt (ns.getD k 0)
    simp only [pNums]
    omega
theorem nums_index (n0 n1 n2 n3 : Int) (k : Nat) (hk : k < 4) (W : World) : (Instr.index 23 (.agg #[.int .i64 n0, .int .i64 n1, .int .i64 n2, .int .i64 n3]) (.int .i64 k)).run Try.prog W = .ok (.int .i64 ([n0, n1, n2, n3].getD k 0)) W := by
  rcases (by omega : k = 0 ∨ k = 1 ∨ k = 2 ∨ k = 3) with rfl | rfl | rfl | rfl
  · first | rfl | kernel_rfl
  · first | rfl | kernel_rfl
  · first | rfl | kernel_rfl
  · first | rfl | kernel_rfl
theorem len_eTexts (ss : List ByteArray) (h : ss.length ≤ 65536) : Oct.len (eTexts ss) ≤ 5000000000 := by
  unfold eTexts
  rw [if_neg (by omega)]
  have h1 := Oct.len_app (eLen ss.length) (Oct.eStrs ss ss.length)
  have h2 := Oct.len_eLen (ss.length : Int)
  have h3 := Oct.len_eStrs ss ss.length
  have h4 : 65544 * ss.length ≤ 65544 * 65536 := Nat.mul_le_mul (Nat.le_refl _) h
  omega
set_option maxHeartbeats 8000000 in
theorem put_any (kind : Int) (who nm oth txt : ByteArray) (word : List ByteArray) (n0 n1 n2 n3 : Int) (a : Option Addr) (n cap : Nat) (w : World) (hn : word.length = n) (h : Strs w a n word) (h1 : who.size ≤ 9223372036854775807) (h2 : nm.size ≤ 9223372036854775807) (h3 : oth.size ≤ 9223372036854775807) (h4 : txt.size ≤ 9223372036854775807) (h5 : n ≤ 9223372036854775807) :
    Calls Try.prog 10 #[.agg #[.int .i64 kind, .string who, .string nm, .string oth, .string txt, .slice a n cap, .int .i64 n0, .int .i64 n1, .int .i64 n2, .int .i64 n3]] w fun e w' => e = .returned (.string (mkS (putC ⟨kind, who, nm, oth, txt, word, n0, n1, n2, n3⟩))) ∧ Below w.heap.size w w' := by
  obtain ⟨c0, hc0⟩ : ∃ c, c = (⟨kind, who, nm, oth, txt, word, n0, n1, n2, n3⟩ : Cmd) := ⟨_, rfl⟩
  obtain ⟨V, hV⟩ : ∃ V, V = w.alloc (.cells #[.int .i64 kind, .string who, .string nm, .string oth, .string txt, .slice a n cap, .int .i64 n0, .int .i64 n1, .int .i64 n2, .int .i64 n3] 28) := ⟨_, rfl⟩
  have hb : Below w.heap.size w V := by rw [hV]; exact (Below.refl _ w).alloc (Nat.le_refl _) _
  have hx : V.heap[w.heap.size]? = some (.cells #[.int .i64 kind, .string who, .string nm, .string oth, .string txt, .slice a n cap, .int .i64 n0, .int .i64 n1, .int .i64 n2, .int .i64 n3] 28 (0, 0)) := by rw [hV]; exact heap_alloc_new w _
  have hS := Strs.under h hb
  have HG := Lib.hid (good_any kind who nm oth txt word n0 n1 n2 n3 a n cap V hn hS h1 h2 h3 h4 h5)
  rw [← hc0] at HG ⊢
  obtain ⟨q, hq⟩ : ∃ q, q = goodC c0 := ⟨_, rfl⟩
  rw [← hq] at HG
  obtain ⟨res, hres⟩ : ∃ r, r = mkS (putC c0) := ⟨_, rfl⟩
  rw [← hres]
  have x0 := cell_of_row _ _ 0 _ _ (0, 0) hx
  have x1 := cell_of_row _ _ 1 _ _ (0, 0) hx
  have x2 := cell_of_row _ _ 2 _ _ (0, 0) hx
  have x3 := cell_of_row _ _ 3 _ _ (0, 0) hx
  have x4 := cell_of_row _ _ 4 _ _ (0, 0) hx
  have x5 := cell_of_row _ _ 5 _ _ (0, 0) hx
  have x6 := cell_of_row _ _ 6 _ _ (0, 0) hx
  have x7 := cell_of_row _ _ 7 _ _ (0, 0) hx
  have x8 := cell_of_row _ _ 8 _ _ (0, 0) hx
  have x9 := cell_of_row _ _ 9 _ _ (0, 0) hx
  have HX := Lib.hid hx
  have HS := Lib.hid hS
  have HB := Lib.hid hb
  have HV := Lib.hid hV
  have HR := Lib.hid hres
  have HQ := Lib.hid hq
  have HC0 := Lib.hid hc0
  have HN := Lib.hid hn
  have HSS := Lib.hid h
  clear hres hq hV hb hx hS h hc0
  cases q with
  | false =>
    have HF := Lib.hid (show res = mkS [] by rw [HR.out]; unfold putC; rw [← HQ.out]; rfl)
    go_enter Try.func10, Try.ntmps10
    go_upto_region 1 with fail
    rw [← HV.out]
    go_wp2_with fail
    refine HG.out.mono ?_
    rintro e w1 ⟨rfl, hb1⟩
    have HB1 := Lib.hid hb1
    clear hb1
    go_wp2_with fail
    go_ret
    exact ⟨by rw [HF.out]; rfl, HB.out.trans (HB1.out.mono HB.out.size)⟩
  | true =>
    have HC64 := Lib.hid (show n ≤ 64 by have := ((goodC_iff c0).1 HQ.out.symm).len; rw [HC0.out] at this; rw [← HN.out]; exact this)
    have HF := Lib.hid (show res = mkS ((putO c0).getD []) by rw [HR.out]; unfold putC; rw [if_pos HQ.out.symm, putO_good c0 HQ.out.symm]; rfl)
    go_enter Try.func10, Try.ntmps10
    go_upto_region 1 with fail
    rw [← HV.out]
    go_wp2_with fail
    refine HG.out.mono ?_
    rintro e w1 ⟨rfl, hb1⟩
    have hx1 := (hb1.block _ (Gn.heap_lt HX.out)).trans HX.out
    have HS1 := Lib.hid (Strs.under HS.out hb1)
    obtain ⟨U, hU⟩ : ∃ U, U = w1.alloc (.cells #[.pointer none, .int .i64 0, .bool false] 63) := ⟨_, rfl⟩
    have hst : OutSt U w1.heap.size (w1.heap.size + 1) (some []) := by rw [hU]; exact Oct.OutSt.new w1
    have hbU : Below w1.heap.size w1 U := by rw [hU]; exact (Below.refl _ w1).alloc (Nat.le_refl _) _
    have hxU := (hbU.block _ (Gn.heap_lt hx1)).trans hx1
    have hlt : w.heap.size < w1.heap.size := Gn.heap_lt hx1
    obtain ⟨g, hg⟩ : ∃ g, g = w1.heap.size := ⟨_, rfl⟩
    rw [← hg] at hst hlt
    have HSU := Lib.hid (Strs.under HS1.out hbU)
    have hge : ∀ b off, 0 < n → a = some ⟨b, off, none⟩ → b < w.heap.size := fun b off h0 e => by
      obtain ⟨b2, off2, e2, hb2, _⟩ := HSS.out.2 h0
      rw [e] at e2
      injection e2 with e2
      injection e2 with e2 _ _
      omega
    have HGE := Lib.hid hge
    have HBU := Lib.hid ((HB.out.trans (hb1.mono HB.out.size)).trans (hbU.mono (by have := hb1.size; have := HB.out.size; omega)))
    have HKB := Lib.hid (fun (W : World) (h : OSep g (g + 1) U W) => ((h.below (B := g) (by omega) (by omega)).block w.heap.size hlt).trans hxU)
    have HST := Lib.hid hst
    have HU := Lib.hid hU
    have HGG := Lib.hid hg
    have HLT := Lib.hid hlt
    have HCI := Lib.hid (fun (w : World) (st : Option (List UInt8)) (q : Int) (h : OutSt w g (g + 1) st) (hl : Oct.len st ≤ 6000000000) => Oct.int_any _ _ st q w h (by omega))
    have HCT := Lib.hid (fun (w : World) (st : Option (List UInt8)) (q : ByteArray) (h : OutSt w g (g + 1) st) (hl : Oct.len st ≤ 6000000000) => Oct.text_any _ _ st q w h (by omega))
    have y0 := cell_of_row _ _ 0 _ _ (0, 0) hxU
    clear hb1 hx1 hU hst hbU hxU hlt hg hge x0 x1 x2 x3 x4 x5 x6 x7 x8 x9
    go_upto_region 4 with fail
    rw [← HU.out, ← HGG.out]
    go_wp2_with fail
    refine (HCI.out _ _ _ HST.out (by show 0 ≤ _; omega)).mono ?_
    rintro e v1 ⟨rfl, ho, hs⟩
    have ho : OutSt v1 g (g + 1) (eInt kind) := by
      have h0 : app (some []) (eInt kind) = eInt kind := by cases eInt kind <;> simp [app]
      rw [← h0]
      exact ho
    have HO1 := Lib.hid ho
    have HSEP1 := Lib.hid (hs)
    have HL1 := Lib.hid (show Oct.len (eInt kind) ≤ 8 by
      have h1 := Oct.len_eInt kind
      omega)
    have y1 := cell_of_row _ _ 1 _ _ (0, 0) (HKB.out _ HSEP1.out)
    clear ho hs y0
    go_wp2_with fail
    refine (HCT.out _ _ _ HO1.out (by have := HL1.out; omega)).mono ?_
    rintro e v2 ⟨rfl, ho, hs⟩
    have HO2 := Lib.hid ho
    have HSEP2 := Lib.hid (HSEP1.out.trans hs)
    have HL2 := Lib.hid (show Oct.len (app (eInt kind) (eText (bs who))) ≤ 65552 by
      have h1 := Oct.len_app (eInt kind) (eText (bs who))
      have h2 := Oct.len_eText (bs who)
      have h3 := HL1.out
      omega)
    have y2 := cell_of_row _ _ 2 _ _ (0, 0) (HKB.out _ HSEP2.out)
    clear ho hs y1
    go_wp2_with fail
    refine (HCT.out _ _ _ HO2.out (by have := HL2.out; omega)).mono ?_
    rintro e v3 ⟨rfl, ho, hs⟩
    have HO3 := Lib.hid ho
    have HSEP3 := Lib.hid (HSEP2.out.trans hs)
    have HL3 := Lib.hid (show Oct.len (app (app (eInt kind) (eText (bs who))) (eText (bs nm))) ≤ 131096 by
      have h1 := Oct.len_app (app (eInt kind) (eText (bs who))) (eText (bs nm))
      have h2 := Oct.len_eText (bs nm)
      have h3 := HL2.out
      omega)
    have y3 := cell_of_row _ _ 3 _ _ (0, 0) (HKB.out _ HSEP3.out)
    clear ho hs y2
    go_wp2_with fail
    refine (HCT.out _ _ _ HO3.out (by have := HL3.out; omega)).mono ?_
    rintro e v4 ⟨rfl, ho, hs⟩
    have HO4 := Lib.hid ho
    have HSEP4 := Lib.hid (HSEP3.out.trans hs)
    have HL4 := Lib.hid (show Oct.len (app (app (app (eInt kind) (eText (bs who))) (eText (bs nm))) (eText (bs oth))) ≤ 196640 by
      have h1 := Oct.len_app (app (app (eInt kind) (eText (bs who))) (eText (bs nm))) (eText (bs oth))
      have h2 := Oct.len_eText (bs oth)
      have h3 := HL3.out
      omega)
    have y4 := cell_of_row _ _ 4 _ _ (0, 0) (HKB.out _ HSEP4.out)
    clear ho hs y3
    go_wp2_with fail
    refine (HCT.out _ _ _ HO4.out (by have := HL4.out; omega)).mono ?_
    rintro e v5 ⟨rfl, ho, hs⟩
    have HO5 := Lib.hid ho
    have HSEP5 := Lib.hid (HSEP4.out.trans hs)
    have HL5 := Lib.hid (show Oct.len (app (app (app (app (eInt kind) (eText (bs who))) (eText (bs nm))) (eText (bs oth))) (eText (bs txt))) ≤ 262184 by
      have h1 := Oct.len_app (app (app (app (eInt kind) (eText (bs who))) (eText (bs nm))) (eText (bs oth))) (eText (bs txt))
      have h2 := Oct.len_eText (bs txt)
      have h3 := HL4.out
      omega)
    have y5 := cell_of_row _ _ 5 _ _ (0, 0) (HKB.out _ HSEP5.out)
    clear ho hs y4
    go_wp2_with fail
    refine (Oct.texts_any _ _ _ a n cap word _ HO5.out ⟨HN.out, fun h0 => by
              obtain ⟨b, off, e, hb, hc⟩ := HSU.out.2 h0
              have hlt := HGE.out b off h0 e
              exact ⟨b, off, e, by have := (HSEP5.out.below (B := g) (by omega) (by omega)).size; omega, fun i hi => ((HSEP5.out.below (B := g) (by omega) (by omega)).cell (p := ⟨b, off + i, none⟩) (by have := HLT.out; show b < g; omega)).trans (hc i hi)⟩⟩ (by have := HL5.out; omega) (fun h0 b off e => by have := HGE.out b off h0 e; have := HLT.out; omega)).mono ?_
    rintro e v6 ⟨rfl, ho, hs⟩
    have HO6 := Lib.hid ho
    have HSEP6 := Lib.hid (HSEP5.out.trans hs)
    have HL6 := Lib.hid (show Oct.len (app (app (app (app (app (eInt kind) (eText (bs who))) (eText (bs nm))) (eText (bs oth))) (eText (bs txt))) (eTexts word)) ≤ 5000262184 by
      have h1 := Oct.len_app (app (app (app (app (eInt kind) (eText (bs who))) (eText (bs nm))) (eText (bs oth))) (eText (bs txt))) (eTexts word)
      have h2 := len_eTexts word (by have := HN.out; have := HC64.out; omega)
      have h3 := HL5.out
      omega)
    have y6 := cell_of_row _ _ 6 _ _ (0, 0) (HKB.out _ HSEP6.out)
    have y7 := cell_of_row _ _ 7 _ _ (0, 0) (HKB.out _ HSEP6.out)
    have y8 := cell_of_row _ _ 8 _ _ (0, 0) (HKB.out _ HSEP6.out)
    have y9 := cell_of_row _ _ 9 _ _ (0, 0) (HKB.out _ HSEP6.out)
    clear ho hs y5
    have HIX := Lib.hid (nums_index n0 n1 n2 n3)
    obtain ⟨s6, hs6⟩ : ∃ s, s = (app (app (app (app (app (eInt kind) (eText (bs who))) (eText (bs nm))) (eText (bs oth))) (eText (bs txt))) (eTexts word)) := ⟨_, rfl⟩
    have HO6 := Lib.hid HO6.out
    rw [← hs6] at HO6 HL6
    have HS6 := Lib.hid hs6
    clear hs6
    go_wp2_with fail
    go_loopw [31] (fun i wr => ∃ k : Nat, k ≤ 4 ∧ i = .int .i64 k ∧ OutSt wr g (g + 1) (app s6 (pNums [n0, n1, n2, n3] k)) ∧ OSep g (g + 1) U wr) (fun i _ => 4 - (intOf i).toNat)
    case atStart => exact ⟨0, by omega, rfl, by rw [pNums, Oct.app_nil]; exact HO6.out, HSEP6.out⟩
    case round =>
      obtain ⟨k, hk, rfl, ho, hs⟩ := hrel
      have HOK := Lib.hid ho
      have HSK := Lib.hid hs
      have HLK := Lib.hid (show Oct.len (app s6 (pNums [n0, n1, n2, n3] k)) ≤ 5900000000 by
        have h1 := Oct.len_app s6 (pNums [n0, n1, n2, n3] k)
        have h2 := len_pNums [n0, n1, n2, n3] k
        have h3 := HL6.out
        omega)
      clear ho hs
      by_cases h4 : k < 4
      · have hlt4 : (k : Int) < 4 := by omega
        have hix := HIX.out k h4
        obtain ⟨x, hx⟩ : ∃ x, x = [n0, n1, n2, n3].getD k 0 := ⟨_, rfl⟩
        rw [← hx] at hix
        have HXX := Lib.hid hx
        clear hx
        go_wp2_with fail
        refine (HCI.out _ _ _ HOK.out (by have := HLK.out; omega)).mono ?_
        rintro e v9 ⟨rfl, ho, hs⟩
        have ho2 : OutSt v9 g (g + 1) (app s6 (pNums [n0, n1, n2, n3] (k + 1))) := by
          rw [pNums, ← HXX.out, ← Oct.app_assoc]; exact ho
        have HO9 := Lib.hid ho2
        have HS9 := Lib.hid (HSK.out.trans hs)
        clear ho hs ho2
        go_wp2_with fail
        refine ⟨⟨k + 1, by omega, by go_num, HO9.out, HS9.out⟩, by simp [intOf]; omega⟩
      · have hke : k = 4 := by omega
        subst hke
        have HFF := Lib.hid (show app s6 (pNums [n0, n1, n2, n3] 4) = putO c0 by rw [HS6.out, HC0.out]; rfl)
        go_wp2_with fail
        refine (Oct.bytes_any _ _ _ _ HOK.out).mono ?_
        rintro e v9 ⟨rfl, hd⟩
        rw [HFF.out]
        have HE := Lib.hid ((HBU.out.trans (HSK.out.below (B := w.heap.size) (by have := HLT.out; omega) (by have := HLT.out; omega))).trans (hd.below _))
        clear hd
        go_wp2_with fail
        go_ret
        exact ⟨by rw [HF.out]; rfl, HE.out⟩
end Go.Proofs.Ytbkfbejbloclgaa.Cm
