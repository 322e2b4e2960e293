/-
  LexBlank: of any text that is read and any gaps the call returns true: with more blanks and comments between its tokens it is read as the same kinds and texts. For every text and every list; no condition of ours.
-/
import Derived.Test.YteaolilndkjlpaaLxRows
import Derived.Test.YteaolilndkjlpaaLxBlanks
import Derived.Test.YteaolilndkjlpaaLxQuote
import Derived.Test.YteaolilndkjlpaaRows
import Derived.ProofKit
import Derived.OpenShut
import Derived.ShutString
import Derived.ChangeOld
import Derived.OwnWalk
namespace Go.Proofs.Yteaolilndkjlpaa.lexBlank
open Go.ChangeShapes Go.WideShapes Go.ChangeAt Go.RowKit
open Go.ChangeMaps (open_string shut_string)
open Lx (bs Tk Toks)
set_option linter.unusedVariables false

theorem own : ownKnob Try.prog.godebug = none := by kernel_rfl
theorem laidOut : laidOutB Try.prog = true := by kernel_rfl

theorem and3 (z : Int) : bits .and .i64 z 3 = z % 4 := by
  show IntKind.i64.wrap ((BitVec.ofInt 64 z &&& BitVec.ofInt 64 3).toNat : Int) = _
  have h3 : (BitVec.ofInt 64 3).toNat = 2 ^ 2 - 1 := by decide
  rw [BitVec.toNat_and, h3, Nat.and_two_pow_sub_one_eq_mod, BitVec.toNat_ofInt]
  rw [IntWalk.i64_in _ (by omega)]
  omega

/-- What the walk knows of the list that came in. -/
def Came (w : World) (a : Option Addr) (len : Nat) (zs : List Int) : Prop :=
  len ≤ zs.length ∧ (0 < len → ∃ b off, a = some ⟨b, off, none⟩ ∧ b < w.heap.size ∧ ∀ i, i < len → w.cell? ⟨b, off + i, none⟩ = some (.int .i64 (zs.getD i 0)))
/-- Which gap is taken. -/
def gapN (len : Nat) (zs : List Int) (i : Nat) : Nat := if i < len then (zs.getD i 0 % 4).toNat else 0
theorem gapN_lt (len : Nat) (zs : List Int) (i : Nat) : gapN len zs i < 4 := by
  unfold gapN
  split <;> omega
def pairs (len : Nat) (zs : List Int) (T : List Tk) : List (Nat × Tk) := T.mapIdx (fun i t => (gapN len zs i, t))
theorem pairs_len (len : Nat) (zs : List Int) (T : List Tk) : (pairs len zs T).length = T.length := by simp [pairs]
theorem pairs_take (len : Nat) (zs : List Int) (T : List Tk) (k : Nat) (h : k < T.length) : (pairs len zs T).take (k + 1) = (pairs len zs T).take k ++ [(gapN len zs k, T[k])] := by
  rw [List.take_succ_eq_append_getElem (by rw [pairs_len]; exact h)]
  simp [pairs]
theorem pairs_valid (len : Nat) (zs : List Int) (T : List Tk) (h : ∀ t ∈ T, Lx.Valid t) : ∀ p ∈ pairs len zs T, Lx.Valid p.2 := by
  intro p hp
  simp only [pairs, List.mem_mapIdx] at hp
  obtain ⟨i, hi, e⟩ := hp
  rw [← e]
  exact h _ (List.getElem_mem hi)
theorem pairs_key (len : Nat) (zs : List Int) (T : List Tk) : (pairs len zs T).map (fun p => (p.2.kind, p.2.text)) = T.map (fun t => (t.kind, t.text)) := by
  apply List.ext_getElem
  · simp [pairs]
  · intro i h1 h2
    simp [pairs]
theorem qOf_eq (s : List UInt8) : Lx.qOf s = Lx.qOfL s := rfl
theorem gap_at (W : World) (g : Nat) (h : g < 4) : (W.alloc (.cells #[.string ⟨#[32]⟩, .string ⟨#[9, 10]⟩, .string ⟨#[32, 35, 32, 110, 111, 32, 116, 111, 107, 101, 110, 32, 39, 32, 104, 101, 114, 101, 10]⟩, .string ⟨#[13, 10, 32]⟩] 9)).cell? ⟨W.heap.size, g, none⟩ = some (.string (Lx.mk (Lx.gapL g))) := by
  rw [cell_of_row _ _ g _ _ _ (heap_alloc_new W _)]
  have : ∀ n : Fin 4, (#[Value.string ⟨#[32]⟩, .string ⟨#[9, 10]⟩, .string ⟨#[32, 35, 32, 110, 111, 32, 116, 111, 107, 101, 110, 32, 39, 32, 104, 101, 114, 101, 10]⟩, .string ⟨#[13, 10, 32]⟩])[n.val]? = some (.string (Lx.mk (Lx.gapL n.val))) := by
    intro n
    match n with
    | ⟨0, _⟩ => rfl
    | ⟨1, _⟩ => rfl
    | ⟨2, _⟩ => rfl
    | ⟨3, _⟩ => rfl
  exact this ⟨g, h⟩

structure TwoAt (L M : List Tk) (r1 r2 : Nat) (w W : World) : Prop where
  t1 : Toks W r1 L
  t2 : Toks W r2 M
  bel : Below w.heap.size w W
theorem TwoAt.drewN {L M : List Tk} {r1 r2 : Nat} {w W : World} (h : TwoAt L M r1 r2 w W) (n : Nat) : TwoAt L M r1 r2 w (W.drewN n) := ⟨h.t1.drewN n, h.t2.drewN n, Lx.below_drewN h.bel n⟩

/-- How far the text is. -/
def BlAt (Ps : List (Nat × Tk)) (n : Nat) (L : List Tk) (r1 : Nat) (w wr : World) (v i : Value) : Prop :=
  (∃ (k : Nat) (tb : ByteArray), k ≤ n ∧ i = .int .i64 k ∧ v = .string tb ∧ tb = Lx.mk ((Ps.take k).flatMap Lx.piece)) ∧ Toks wr r1 L ∧ Below w.heap.size w wr
theorem bl_next {Ps : List (Nat × Tk)} {n : Nat} {L : List Tk} {r1 : Nat} {w wr w2 : World} {k : Nat} {p : Nat × Tk} {tb tc : ByteArray} (hk : k < n) (htb : tb = Lx.mk ((Ps.take k).flatMap Lx.piece)) (hp : Ps.take (k + 1) = Ps.take k ++ [p]) (htc : tc = tb ++ Lx.mk (Lx.gapL p.1) ++ Lx.mk (Lx.tkText p.2))
    (ht : Toks wr r1 L) (hb : Below w.heap.size w wr) (hb2 : Below wr.heap.size wr w2) : BlAt Ps n L r1 w w2 (.string tc) (.int .i64 ((k + 1 : Nat) : Int)) := by
  refine ⟨⟨k + 1, tc, by omega, rfl, rfl, ?_⟩, ht.below hb2, hb.trans (hb2.mono hb.size)⟩
  have mk_cat : ∀ a b : List UInt8, Lx.mk a ++ Lx.mk b = Lx.mk (a ++ b) := fun a b => by apply ByteArray.ext; simp [Lx.mk]
  rw [htc, htb, hp, mk_cat, mk_cat]
  simp [Lx.piece]

set_option maxRecDepth 100000 in
set_option maxHeartbeats 8000000 in
theorem walk (s : ByteArray) (a : Option Addr) (len cap : Nat) (zs : List Int) (w : World) (hc : Came w a len zs) (hm : len ≤ 9223372036854775807) :
    Calls Try.prog 7 #[.string s, .slice a len cap] w fun e w' => e = .returned (.bool true) ∧ Below w.heap.size w w' := by
  have HC := Lib.hid hc
  clear hc
  by_cases hs : 500 < (s.size : Int)
  · go_enter Try.func7, Try.ntmps7
    go_wp2_with fail
    refine (Lx.speaks_true _).mono ?_
    rintro e w1 ⟨rfl, b1⟩
    go_wp2
    go_ret
    exact ⟨rfl, b1⟩
  have KA := fun W => Lx.scan_any s W (by omega)
  rcases Lx.scanS_cases (bs s) (by rw [Lx.bs_len]; omega) with ⟨⟨f0, f1, f2⟩, hf, hsa⟩ | ⟨T, e, hsa, hek, het, hva, hla, hnT⟩
  · rw [hsa] at KA
    have e1 : ((f2 : Int) != 0) = true := by rw [bne_iff_ne]; simp only at hf; omega
    have K1 := Lib.hid KA
    clear KA hsa hf
    go_enter Try.func7, Try.ntmps7
    go_wp2_with fail
    refine (Lx.speaks_true _).mono ?_
    rintro e w1 ⟨rfl, b1⟩
    go_wp2_with fail
    refine (K1.out _).mono ?_
    rintro e w2 ⟨A, cap2, rfl, hown, b2⟩
    simp only [Lx.fltV]
    have HB := Lib.hid (b1.trans (b2.mono b1.size))
    clear hown b2
    go_wp2
    go_ret
    exact ⟨rfl, HB.out.alloc HB.out.size _⟩
  · rw [hsa] at KA
    rw [Lx.bs_len] at hnT
    have hTn : T.length ≤ 500 := by omega
    obtain ⟨Ps, hPs⟩ : ∃ Ps, Ps = pairs len zs T := ⟨_, rfl⟩
    obtain ⟨m, e2, hm1, hm2, hm3, hm4⟩ := Lx.pieces_scan Ps 1 1 (by rw [hPs]; exact pairs_valid len zs T hva)
    have hpl := Lx.pieces_len Ps (by rw [hPs]; exact pairs_valid len zs T hva)
    have hPl : Ps.length = T.length := by rw [hPs, pairs_len]
    rw [hPs, pairs_key] at hm4
    have hml : m.length = T.length := by have := congrArg List.length hm4; simpa using this
    have hlT : (T ++ [e]).length = T.length + 1 := by simp
    have hlM : (m ++ [e2]).length = T.length + 1 := by simp [hml]
    have hkey : ∀ i (h1 : i < (m ++ [e2]).length) (h2 : i < (T ++ [e]).length), (m ++ [e2])[i].kind = (T ++ [e])[i].kind ∧ (m ++ [e2])[i].text = (T ++ [e])[i].text := by
      have h : (m ++ [e2]).map (fun t => (t.kind, t.text)) = (T ++ [e]).map (fun t => (t.kind, t.text)) := by
        rw [List.map_append, List.map_append, hm4]
        simp only [List.map_cons, List.map_nil, hm2, hm3, hek, het]
      intro i h1 h2
      have h3 : ((m ++ [e2]).map (fun t => (t.kind, t.text)))[i]'(by rw [List.length_map]; exact h1) = ((T ++ [e]).map (fun t => (t.kind, t.text)))[i]'(by rw [List.length_map]; exact h2) := by simp only [h]
      rw [List.getElem_map, List.getElem_map] at h3
      exact Prod.mk.inj h3
    have hfl : ∀ k, k ≤ T.length → ((Ps.take k).flatMap Lx.piece).length ≤ 85 * k := fun k hk => by
      have := Lx.pieces_len (Ps.take k) (fun p hp => (by rw [hPs] at hp; exact pairs_valid len zs T hva p (List.mem_of_mem_take hp)))
      rw [List.length_take] at this
      omega
    have hscan : Lx.scanS (Ps.flatMap Lx.piece) = (m ++ [e2], (0, 0, 0)) := by rw [Lx.scanS, if_neg (by omega), hm1]
    have htl : ∀ t ∈ T, (Lx.tkText t).length ≤ 66 := fun t ht => Lx.tkText_len t (hva t ht)
    have heq : ∀ x : ByteArray, (x.toList == x.toList) = true := fun x => by simp
    have K1 := Lib.hid KA
    have HPS := Lib.hid hPs
    have HPL := Lib.hid hPl
    have HKEY := Lib.hid hkey
    have HFL := Lib.hid hfl
    have HSC := Lib.hid hscan
    have HTL := Lib.hid htl
    have HVA := Lib.hid hva
    have HLT := Lib.hid hlT
    have HLM := Lib.hid hlM
    clear KA hsa hPs hm1 hm2 hm3 hm4 hpl hPl hml hlT hlM hkey hfl hscan htl hek het hva hla
    go_enter Try.func7, Try.ntmps7
    go_wp2_with fail
    refine (Lx.speaks_true _).mono ?_
    rintro e0 w1 ⟨rfl, b1⟩
    go_wp2_with fail
    refine (K1.out _).mono ?_
    rintro e0 w2 ⟨A, cap2, rfl, hown, b2⟩
    obtain ⟨r1, rfl, ht1, hcap1⟩ := Lx.toks_of hown (by simp)
    simp only [Lx.fltV]
    have HB := Lib.hid ((b1.trans (b2.mono b1.size)).alloc (Nat.le_trans b1.size b2.size) (.cells #[.int .i64 0, .int .i64 0, .int .i64 0] 27))
    have HT1 := Lib.hid (ht1.alloc (.cells #[.int .i64 0, .int .i64 0, .int .i64 0] 27))
    rw [HLT.out] at hcap1
    simp only [HLT.out]
    clear hown b2 ht1
    go_wp2
    go_loopw [7, 8] (fun v i wr => BlAt Ps T.length (T ++ [e]) r1 w wr v i) (fun _ i _ => T.length - (intOf i).toNat)
    case atStart => exact ⟨⟨0, ⟨#[]⟩, by omega, rfl, rfl, rfl⟩, HT1.out, HB.out⟩
    case round =>
      obtain ⟨⟨k, tb, hk, rfl, rfl, htb⟩, hto, hbe⟩ := hrel
      have htbs : tb.size ≤ 85 * k := by rw [htb]; exact HFL.out k hk
      have hwr := hbe.size
      have HTB := Lib.hid htb
      have HTO := Lib.hid hto
      have HBE := Lib.hid hbe
      clear htb hto hbe HT1 HB
      by_cases hkT : k < T.length
      · obtain ⟨x0, x1, x2, x3⟩ := HTO.out.at_ k (by simp; omega)
        rw [List.getElem_append_left hkT] at x0 x1
        have hr1 := HTO.out.1
        have htk66 := HTL.out T[k] (List.getElem_mem hkT)
        have hstep := pairs_take len zs T k hkT
        rw [← HPS.out] at hstep
        obtain ⟨tk, htk⟩ : ∃ tk, tk = T[k] := ⟨_, rfl⟩
        rw [← htk] at x0 x1 htk66 hstep
        obtain ⟨tx, htx⟩ : ∃ tx, tx = Lx.mk tk.text := ⟨_, rfl⟩
        rw [← htx] at x1
        obtain ⟨g, hg⟩ : ∃ g, g = gapN len zs k := ⟨_, rfl⟩
        rw [← hg] at hstep
        have hg4 : g < 4 := by rw [hg]; exact gapN_lt len zs k
        have hgI : (g : Int) < 4 := by omega
        have hga := gap_at wr g hg4
        obtain ⟨gb, hgb⟩ : ∃ gb, gb = Lx.mk (Lx.gapL g) := ⟨_, rfl⟩
        rw [← hgb] at hga
        have hgbs : gb.size ≤ 19 := by rw [hgb]; exact Lx.gap_len g
        have hcat1 : ¬ 9223372036854775807 < tb.size + gb.size := by omega
        have hsum : (tb ++ gb).size = tb.size + gb.size := by simp
        have y0 : ∀ o, (wr.alloc o).cell? ⟨r1, k * 4, none⟩ = some (.int .i64 tk.kind) := fun o => (((Below.refl wr.heap.size wr).alloc (Nat.le_refl _) o).cell (p := ⟨r1, k * 4, none⟩) hr1).trans x0
        have y1 : ∀ o, (wr.alloc o).cell? ⟨r1, k * 4 + 1, none⟩ = some (.string tx) := fun o => (((Below.refl wr.heap.size wr).alloc (Nat.le_refl _) o).cell (p := ⟨r1, k * 4 + 1, none⟩) hr1).trans x1
        have HST := Lib.hid hstep
        have HGB := Lib.hid hgb
        have HTX := Lib.hid htx
        have HG := Lib.hid hg
        have HTK := Lib.hid htk
        clear x0 x1 x2 x3 hstep hgb htx htk hg
        by_cases hk2 : tk.kind = 2
        · have e2b : ((tk.kind : Int) == 2) = true := by rw [beq_iff_eq]; omega
          have htxs : tx.size ≤ 16 := by
            have hv := HVA.out T[k] (List.getElem_mem hkT)
            rw [← HTK.out] at hv
            have : tk.text.length ≤ 16 := by
              rcases hv with ⟨h, _⟩ | ⟨_, _, h⟩ | ⟨h, _⟩
              · omega
              · exact h
              · omega
            rw [HTX.out]; exact this
          obtain ⟨qt, hqt⟩ : ∃ qt, qt = Lx.mk (Lx.quoteL (Lx.qOf tk.text) tk.text) := ⟨_, rfl⟩
          have hqts : qt.size ≤ 66 := by
            rw [Lx.tkText, if_pos hk2] at htk66
            rw [hqt]; exact htk66
          have KQ : ∀ W, Calls Try.prog 14 #[.string tx] W fun e w' => e = .returned (.string qt) ∧ Below W.heap.size W w' := fun W => by
            have := Lx.quote_any tx W (by omega)
            rw [hqt]
            have e : bs tx = tk.text := by rw [HTX.out]; rfl
            rw [e] at this
            exact this
          have hcat2 : ¬ 9223372036854775807 < tb.size + gb.size + qt.size := by omega
          have hfin := fun w2 => bl_next (Ps := Ps) (n := T.length) (L := T ++ [e]) (r1 := r1) (w := w) (wr := wr) (w2 := w2) (k := k) (p := (g, tk)) (tb := tb) (tc := tb ++ gb ++ qt) hkT HTB.out HST.out (by rw [HGB.out, hqt, Lx.tkText, if_pos hk2]; rfl) HTO.out HBE.out
          simp only [Int.natCast_add] at hfin
          have HFI := Lib.hid hfin
          have KQ1 := Lib.hid KQ
          clear hfin hk2 htk66 KQ hqt
          by_cases hkl : k < len
          · have hkI : (k : Int) < len := by omega
            obtain ⟨b, off, rfl, hb, hcell⟩ := HC.out.2 (by omega)
            have hck : wr.cell? ⟨b, off + k, none⟩ = some (.int .i64 (zs.getD k 0)) := (HBE.out.cell (p := ⟨b, off + k, none⟩) hb).trans (hcell k hkl)
            have hmask : bits .and .i64 (zs.getD k 0) 3 = (g : Int) := by
              have h := HG.out
              rw [gapN, if_pos hkl] at h
              rw [and3]; omega
            clear hcell hkl
            generalize zs.getD k 0 = z at hck hmask
            go_wp2_with fail
            refine (KQ1.out _).mono ?_
            rintro e0 w3 ⟨rfl, b3⟩
            have hbb := Lib.hid (((Below.refl wr.heap.size wr).alloc (Nat.le_refl _) (.cells #[.string ⟨#[32]⟩, .string ⟨#[9, 10]⟩, .string ⟨#[32, 35, 32, 110, 111, 32, 116, 111, 107, 101, 110, 32, 39, 32, 104, 101, 114, 101, 10]⟩, .string ⟨#[13, 10, 32]⟩] 9)).trans (b3.mono (by simp)))
            clear b3
            go_wp2
            exact ⟨HFI.out _ hbb.out, by simp [intOf]; omega⟩
          · have hkI : (len : Int) ≤ k := by omega
            have hg0 : g = 0 := by rw [HG.out, gapN, if_neg hkl]
            subst hg0
            go_wp2_with fail
            refine (KQ1.out _).mono ?_
            rintro e0 w3 ⟨rfl, b3⟩
            have hbb := Lib.hid (((Below.refl wr.heap.size wr).alloc (Nat.le_refl _) (.cells #[.string ⟨#[32]⟩, .string ⟨#[9, 10]⟩, .string ⟨#[32, 35, 32, 110, 111, 32, 116, 111, 107, 101, 110, 32, 39, 32, 104, 101, 114, 101, 10]⟩, .string ⟨#[13, 10, 32]⟩] 9)).trans (b3.mono (by simp)))
            clear b3
            go_wp2
            exact ⟨HFI.out _ hbb.out, by simp [intOf]; omega⟩
        · have e2b : ((tk.kind : Int) == 2) = false := by rw [beq_eq_false_iff_ne]; omega
          have htxs : tx.size ≤ 66 := by
            rw [Lx.tkText, if_neg hk2] at htk66
            rw [HTX.out]; exact htk66
          have hcat2 : ¬ 9223372036854775807 < tb.size + gb.size + tx.size := by omega
          have hfin := fun w2 => bl_next (Ps := Ps) (n := T.length) (L := T ++ [e]) (r1 := r1) (w := w) (wr := wr) (w2 := w2) (k := k) (p := (g, tk)) (tb := tb) (tc := tb ++ gb ++ tx) hkT HTB.out HST.out (by rw [HGB.out, HTX.out, Lx.tkText, if_neg hk2]) HTO.out HBE.out
          simp only [Int.natCast_add] at hfin
          have HFI := Lib.hid hfin
          clear hfin hk2 htk66
          by_cases hkl : k < len
          · have hkI : (k : Int) < len := by omega
            obtain ⟨b, off, rfl, hb, hcell⟩ := HC.out.2 (by omega)
            have hck : wr.cell? ⟨b, off + k, none⟩ = some (.int .i64 (zs.getD k 0)) := (HBE.out.cell (p := ⟨b, off + k, none⟩) hb).trans (hcell k hkl)
            have hmask : bits .and .i64 (zs.getD k 0) 3 = (g : Int) := by
              have h := HG.out
              rw [gapN, if_pos hkl] at h
              rw [and3]; omega
            clear hcell hkl
            generalize zs.getD k 0 = z at hck hmask
            go_wp2
            exact ⟨HFI.out _ ((Below.refl _ _).alloc (Nat.le_refl _) _), by simp [intOf]; omega⟩
          · have hkI : (len : Int) ≤ k := by omega
            have hg0 : g = 0 := by rw [HG.out, gapN, if_neg hkl]
            subst hg0
            go_wp2
            exact ⟨HFI.out _ ((Below.refl _ _).alloc (Nat.le_refl _) _), by simp [intOf]; omega⟩
      · obtain rfl : k = T.length := by omega
        have hbt : bs tb = Ps.flatMap Lx.piece := by rw [HTB.out, List.take_of_length_le (by rw [HPL.out]; omega)]; rfl
        have K3 := fun W => Lx.scan_any tb W (by omega)
        rw [hbt, HSC.out] at K3
        have K3h := Lib.hid K3
        clear K3 hbt
        go_wp2_with fail
        refine (K3h.out _).mono ?_
        rintro e0 w3 ⟨A3, cap3, rfl, hown, b3⟩
        obtain ⟨r2, rfl, ht2, hcap2⟩ := Lx.toks_of hown (by simp)
        rw [HLM.out] at hcap2
        simp only [Lx.fltV, HLM.out]
        have hT := Lib.hid ((HTO.out.below b3).alloc (.cells #[.int .i64 0, .int .i64 0, .int .i64 0] 27))
        have hM := Lib.hid (ht2.alloc (.cells #[.int .i64 0, .int .i64 0, .int .i64 0] 27))
        have hB := Lib.hid ((HBE.out.trans (b3.mono hwr)).alloc (Nat.le_trans hwr b3.size) (.cells #[.int .i64 0, .int .i64 0, .int .i64 0] 27))
        clear hown b3 ht2
        go_wp2
        have HJ : TwoAt (T ++ [e]) (m ++ [e2]) r1 r2 w (w3.alloc (.cells #[.int .i64 0, .int .i64 0, .int .i64 0] 27)) := ⟨hT.out, hM.out, hB.out⟩
        generalize hW : World.alloc w3 _ = W at HJ ⊢
        clear hW hT hM hB HTO HBE HTB K1 K3h
        go_loopw [12] (fun i wr => (∃ k : Nat, k ≤ T.length + 1 ∧ i = .int .i64 k) ∧ TwoAt (T ++ [e]) (m ++ [e2]) r1 r2 w wr) (fun i _ => T.length + 1 - (intOf i).toNat)
        case atStart => exact ⟨⟨0, by omega, rfl⟩, HJ⟩
        case round =>
          obtain ⟨⟨k, hk, rfl⟩, hja⟩ := hrel
          clear HJ
          by_cases hkT : k < T.length + 1
          · have hk1 : k < (m ++ [e2]).length := by rw [HLM.out]; exact hkT
            have hk2 : k < (T ++ [e]).length := by rw [HLT.out]; exact hkT
            obtain ⟨x0, x1, x2, x3⟩ := hja.t1.at_ k hk2
            obtain ⟨y0, y1, y2, y3⟩ := hja.t2.at_ k hk1
            obtain ⟨q1, q2⟩ := HKEY.out k hk1 hk2
            rw [q1] at y0
            rw [q2] at y1
            clear x2 x3 y2 y3 q1 q2
            generalize (T ++ [e])[k].kind = ak at x0 y0
            generalize Lx.mk (T ++ [e])[k].text = as_ at x1 y1
            have HJA := Lib.hid hja
            clear hja hk1 hk2
            go_wp2_with fail
            go_quiet (fail)
            go_wp2
            go_roundw
            case rel => exact ⟨⟨k + 1, by omega, by go_num⟩, HJA.out.drewN _⟩
            case measure => simp [intOf]; omega
          · obtain rfl : k = T.length + 1 := by omega
            have HJA := Lib.hid hja
            clear hja
            go_wp2
            go_ret
            exact ⟨rfl, HJA.out.bel⟩

set_option maxRecDepth 100000 in
theorem lifted (os : Os) (started : os.Started) (H : Type) (enc : TypeId × Value → H) :
    ReturnsInHanded {} Try.checked os 7 .any (Rows.lexBlankSpec.pre6 enc Try.prog Try.f7 Rows.lexBlankRow.domain false) (Rows.lexBlankSpec.post enc Try.prog Try.f7 false true false false) := by
  refine returnsInHanded_of_change (C := Try.checked) own started (by kernel_rfl) Try.func7
    (ChangeSpec.witness6 (enc := enc) (C := Try.checked) false ⟨#[], #[.string ByteArray.empty, .slice none 0 0], []⟩ 8 (by kernel_rfl) (by kernel_rfl) (by kernel_rfl) (by kernel_rfl)) ?_
  intro W base args ds gs before hval0 hW hcnd _
  have hval : ∀ (j : Nat) t v, Try.f7.params[j]? = some t → args[j]? = some v → Value.okWide Try.prog W .any base t v := hval0
  have hW' := hW
  obtain ⟨p, q, hA0, hV, rfl, hfz, hnd⟩ := hW
  have hA : DataW.TrodAll enc Try.prog W 0 (fun _ => true) true Try.f7.params.toList args.toList ds p := hA0
  rw [Try.params7] at hA hval
  obtain ⟨v0, vs0, d0, ds0, p0, q0, hargs, rfl, rfl, h0, r0⟩ := trodAll_cons hA
  obtain ⟨v1, vs1, d1, ds1, p1, q1, rfl, rfl, rfl, h1, r1⟩ := trodAll_cons r0
  obtain ⟨rfl, rfl, rfl⟩ := trodAll_nil r1
  obtain rfl : args = #[v0, v1] := by cases args; simp_all
  obtain ⟨rfl, rfl⟩ := trodVars_none hV
  obtain ⟨b0, rfl, rfl, rfl, wb0⟩ := open_string Try.underlying9 (hval 0 9 v0 rfl rfl) h0
  obtain ⟨a0, len0, cap0, rfl⟩ := okWide_slice Try.underlying34 (hval 1 34 v1 rfl rfl)
  have k0 := h1
  have lt0 : ∀ x ∈ p1, x.block < W.heap.size := by obtain ⟨m, hm⟩ := k0; exact DataW.trod_lt m _ _ _ hm
  obtain ⟨z0, w0, hm0⟩ : ∃ zs, Came W a0 len0 zs ∧ len0 ≤ 9223372036854775807 := by
    obtain ⟨fuel, hf⟩ := h1
    rcases open_ints Try.underlying34 Try.underlying3 (by kernel_rfl) hf with ⟨hcs, _⟩ | ⟨x, l, c, zs, hcs, _, hl, hm, hz, _, hcell, hwz⟩
    · simp [Value.cells] at hcs
      obtain ⟨rfl, rfl, rfl⟩ := hcs
      exact ⟨[], ⟨by simp, fun h => absurd h (by omega)⟩, by omega⟩
    · simp [Value.cells] at hcs
      obtain ⟨rfl, rfl, rfl⟩ := hcs
      have hz' : zs.length = cap0 := by simpa using hz
      unfold maxLen at hm
      refine ⟨zs, ⟨by omega, fun h => ?_⟩, by omega⟩
      obtain ⟨b, off, spot⟩ := x
      have hc0 := hcell 0 (by omega)
      have hspot : spot = none := by simpa [Addr.add] using World.cell?_spot hc0
      subst hspot
      refine ⟨b, off, rfl, ?_, fun i hi => ?_⟩
      · have := World.block_lt_of_cell? W _ hc0
        simpa [Addr.add] using this
      · have e : (⟨b, off, none⟩ : Addr).add i = ⟨b, off + i, none⟩ := by unfold Addr.add; split <;> simp_all
        rw [← e]
        exact hcell i (by omega)
  clear hA0 hval0
  refine (walk b0 a0 len0 cap0 z0 W w0 hm0).mono fun e W' ⟨he, bel⟩ => ?_
  subst he
  exact ⟨_, rfl, _, _, _, [], _, [], hW', trodAll_mk1 (shut_bool Try.underlying4 _), (trodAll_cons_mk (shut_string Try.underlying9 wb0) (trodAll_cons_mk (Below.trod laidOut (by kernel_rfl) (of_decide_eq_true (by kernel_rfl)) k0 bel lt0) trodAll_mk0)), rfl, bel.frame _, fun h => by cases h⟩

theorem over : Rows.LexBlankSaid :=
  OpenClaim.holds_of_wide 7 Try.f7 rfl rfl rfl rfl rfl rfl rfl ⟨rfl, rfl, rfl, rfl, rfl⟩ rfl rfl rfl rfl rfl (by kernel_rfl) Try.func7 (by kernel_rfl)
    (of_decide_eq_true (by kernel_rfl)) (by unfold Func.isWrapper; first | (rw [if_pos (by decide +kernel)]; kernel_rfl) | (rw [if_neg (by decide +kernel)]; exact ⟨rfl, rfl⟩))
    (fun os started H enc _ => lifted os started H enc)

theorem proved : Rows.LexBlankSaid := over
#print axioms proved
end Go.Proofs.Yteaolilndkjlpaa.lexBlank
