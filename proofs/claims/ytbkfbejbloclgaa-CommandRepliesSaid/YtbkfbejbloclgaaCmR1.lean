/-
  Layer 21: replies in plain words; the marks of texts.
-/
import Derived.Test.YtbkfbejbloclgaaCmO
namespace Go.Proofs.Ytbkfbejbloclgaa.Cm
open Go.RowKit
open Oct (pb bs Strs rInt rText rTexts rErr rEnd At Sep Gives strV OutSt OSep app eInt eText eTexts eLen rng)
open Lx (goodB)
open Gn (Asks)
open Mk (gm canon)
set_option maxRecDepth 100000
set_option linter.unusedSimpArgs false
set_option linter.unusedVariables false

/-- A reply. -/
structure Rep where
  code : Int
  line : Int
  col : Int
  count : Int
  text : ByteArray
  texts : List ByteArray
  marks : List Nat
/-- A row of marks in memory. -/
def Flts (w : World) (a : Option Addr) (n : Nat) (ms : List Nat) : Prop :=
  ms.length = n ∧ (0 < n → ∃ b off, a = some ⟨b, off, none⟩ ∧ b < w.heap.size ∧ ∀ i, i < n → w.cell? ⟨b, off + i, none⟩ = some (.float .f64 (ms.getD i 0)))
theorem Flts.under {w w' : World} {a : Option Addr} {n : Nat} {ss : List Nat} (h : Flts w a n ss) (b : Below w.heap.size w w') : Flts w' a n ss := by
  refine ⟨h.1, fun h0 => ?_⟩
  obtain ⟨r, off, e, hr, hc⟩ := h.2 h0
  exact ⟨r, off, e, by have := b.size; omega, fun i hi => (b.cell (p := ⟨r, off + i, none⟩) hr).trans (hc i hi)⟩
theorem Flts.get {w : World} {a : Option Addr} {n : Nat} {ss : List Nat} (h : Flts w a n ss) (k : Nat) (hk : k < n) : ∃ b off, a = some ⟨b, off, none⟩ ∧ b < w.heap.size ∧ w.cell? ⟨b, off + k, none⟩ = some (.float .f64 (ss[k]'(by rw [h.1]; exact hk))) := by
  obtain ⟨b, off, e, hb, hc⟩ := h.2 (by omega)
  refine ⟨b, off, e, hb, ?_⟩
  rw [hc k hk, List.getD_eq_getElem?_getD, List.getElem?_eq_getElem (by rw [h.1]; exact hk)]
  rfl
def fltV (b : Nat) : Value := .float .f64 b
theorem flts_own {w : World} {base n cap : Nat} {A : Option Addr} {ms : List Nat} (h : w.ownsRow base 89 1 (.slice A n cap) n (ms.map fltV)) : Flts w A n ms := by
  have h1 := h.1
  rw [List.length_map, Nat.mul_one] at h1
  refine ⟨h1, fun h0 => ?_⟩
  rcases h.2 with ⟨hv, h2⟩ | ⟨r, cp, cur, hv, hbr, hhr, hrest⟩
  · omega
  · injection hv with e1 e2 e3
    subst e1
    refine ⟨r, 0, rfl, Gn.heap_lt hhr, fun i hi => ?_⟩
    have hc := h.cells (g := r) rfl
    rw [Nat.zero_add]
    have := hc i (fltV (ms[i]'(by omega))) (by rw [List.getElem?_map, List.getElem?_eq_getElem (by omega)]; rfl)
    rw [Gn.add_row] at this
    rw [this, List.getD_eq_getElem?_getD, List.getElem?_eq_getElem (by omega)]
    rfl
/-- The bytes of a mark. -/
def mk8 (b : Nat) : ByteArray := ⟨(Oct.be 8 (canon b)).toArray⟩
def eRep (r : Rep) : Option (List UInt8) := app (app (app (app (app (app (eInt r.code) (eInt r.line)) (eInt r.col)) (eInt r.count)) (eText (bs r.text))) (eTexts r.texts)) (eTexts (r.marks.map mk8))
def putR (r : Rep) : List UInt8 := if 4096 < r.texts.length ∨ 4096 < r.marks.length then [] else (eRep r).getD []
def zeroR : Rep := ⟨0, 0, 0, 0, ⟨#[]⟩, [], []⟩
/-- The marks of texts; are they such? -/
def mksOf (zs : List (List UInt8)) : List Nat := zs.map fun z => (gm z).1
def mkB (z : List UInt8) : Bool := decide ((gm z).2 = 0)
def mksB (zs : List (List UInt8)) : Bool := zs.all mkB
def codeB (n : Int) : Bool := decide (0 ≤ n) && decide (n ≤ 20)
structure Q7 where
  code : Int
  line : Int
  col : Int
  count : Int
  text : List UInt8
  texts : List (List UInt8)
  zs : List (List UInt8)
  rest : Oct.Rest
def readR (r : Oct.Rest) : Q7 :=
  ⟨(rInt r).1, (rInt (rInt r).2).1, (rInt (rInt (rInt r).2).2).1, (rInt (rInt (rInt (rInt r).2).2).2).1, (rText (rInt (rInt (rInt (rInt r).2).2).2).2).1,
   (rTexts 4096 (rText (rInt (rInt (rInt (rInt r).2).2).2).2).2).1, (rTexts 4096 (rTexts 4096 (rText (rInt (rInt (rInt (rInt r).2).2).2).2).2).2).1,
   (rTexts 4096 (rTexts 4096 (rText (rInt (rInt (rInt (rInt r).2).2).2).2).2).2).2⟩
def Q7.rep (q : Q7) : Rep := ⟨q.code, q.line, q.col, q.count, mkS q.text, q.texts.map mkS, mksOf q.zs⟩
def Q7.err (q : Q7) : Nat := endC (mksB q.zs && codeB q.code) q.rest
def getR (l : List UInt8) : Rep × Nat := if (readR (.ok l)).err = 0 then ((readR (.ok l)).rep, 0) else (zeroR, (readR (.ok l)).err)
/-- A value is a reply. -/
def RepAt (W : World) (r : Rep) (v : Value) : Prop := ∃ a cap b cap', v = .agg #[.int .i64 r.code, .int .i64 r.line, .int .i64 r.col, .int .i64 r.count, .string r.text, .slice a r.texts.length cap, .slice b r.marks.length cap'] ∧ Strs W a r.texts.length r.texts ∧ Flts W b r.marks.length r.marks
structure FitsR (r : Rep) : Prop where
  text : r.text.size ≤ 9223372036854775807
  texts : r.texts.length ≤ 65536
  marks : r.marks.length ≤ 65536
  low : ∀ b ∈ r.marks, b < 18446744073709551616
def RepOut (W : World) (q : Rep × Nat) (e : Ending) (w' : World) : Prop := ∃ v, e = .returned (.tuple #[v, .int .i64 (q.2 : Int)]) ∧ RepAt w' q.1 v ∧ Below W.heap.size W w'
theorem zeroR_at (W : World) : RepAt W zeroR (.agg #[.int .i64 0, .int .i64 0, .int .i64 0, .int .i64 0, .string ⟨#[]⟩, .slice none 0 0, .slice none 0 0]) := ⟨none, 0, none, 0, rfl, ⟨rfl, fun h => absurd h (by decide)⟩, ⟨rfl, fun h => absurd h (by decide)⟩⟩
theorem RepAt.under {W W' : World} {c : Rep} {v : Value} (h : RepAt W c v) (b : Below W.heap.size W W') : RepAt W' c v := by
  obtain ⟨a, cap, a', cap', e, hs, hf⟩ := h
  exact ⟨a, cap, a', cap', e, Strs.under hs b, Flts.under hf b⟩
theorem readR_fits (r : Oct.Rest) : FitsR (readR r).rep := by
  refine ⟨?_, ?_, ?_, ?_⟩
  · have := rText_len (rInt (rInt (rInt (rInt r).2).2).2).2; show (mkS _).size ≤ _; rw [mkS_size]; exact Nat.le_trans this (by decide)
  · have := rTexts_len 4096 (rText (rInt (rInt (rInt (rInt r).2).2).2).2).2; show (List.map _ _).length ≤ _; rw [List.length_map]; exact this
  · have := rTexts_len 4096 (rTexts 4096 (rText (rInt (rInt (rInt (rInt r).2).2).2).2).2).2; show (List.map _ _).length ≤ _; rw [List.length_map]; exact this
  · intro b hb
    obtain ⟨z, _, rfl⟩ := List.mem_map.1 hb
    exact Mk.gm_lt z
theorem getR_fits (l : List UInt8) : FitsR (getR l).1 := by
  unfold getR
  split
  · exact readR_fits _
  · exact (show FitsR zeroR from ⟨by decide, by decide, by decide, by simp [zeroR]⟩)
theorem fltinfo : (Try.prog.info? 89).map (fun i => (i.zero, i.size, i.bytes)) = some (some (.float .f64 0), 1, 8) := by kernel_rfl
def GivesM (w : World) (zs : List (List UInt8)) (e : Ending) (w' : World) : Prop := ∃ A cap, e = .returned (.tuple #[.slice A (if mksB zs = true then zs.length else 0) cap, .bool (mksB zs)]) ∧ w'.ownsRow w.heap.size 89 1 (.slice A (if mksB zs = true then zs.length else 0) cap) (if mksB zs = true then zs.length else 0) ((if mksB zs = true then mksOf zs else []).map fltV) ∧ Below w.heap.size w w'
theorem mk_get (z : List UInt8) (w : World) : Calls Try.prog 77 #[.string (mkS z)] w fun e w' => e = .returned (.tuple #[.float .f64 (gm z).1, .int .i64 ((gm z).2 : Int)]) ∧ Below w.heap.size w w' := by
  have h := Mk.get_any (mkS z) w
  rw [show Mk.bs (mkS z) = z from bs_mkS z] at h
  exact h
set_option maxHeartbeats 4000000 in
theorem getMarks_any (a : Option Addr) (n cap : Nat) (zs : List (List UInt8)) (w : World) (h : Strs w a n (zs.map mkS)) (hn : n ≤ 65536) :
    Calls Try.prog 53 #[.slice a n cap] w (GivesM w zs) := by
  obtain ⟨i0, hi0, hz0, hz1, hz2⟩ := info_parts fltinfo
  have HL := Lib.hid (show zs.length = n by have := h.1; rwa [List.length_map] at this)
  have H := Lib.hid h
  obtain ⟨P, hP⟩ : ∃ P, P = GivesM w zs := ⟨_, rfl⟩
  rw [← hP]
  have HP := Lib.hid hP
  have HT0 := Lib.hid (show ∀ z ∈ zs.take 0, mkB z = true from fun z hz => by simp at hz)
  clear h hP
  go_enter Try.func53, Try.ntmps53
  go_wp2_with fail
  go_loopw [4, 11] (fun v i wr => ∃ (k : Nat) (A : Option Addr) (c : Nat), k ≤ n ∧ i = .int .i64 k ∧ v = .slice A k c ∧ (∀ z ∈ zs.take k, mkB z = true) ∧ wr.ownsRow w.heap.size 89 1 (.slice A k c) k ((mksOf (zs.take k)).map fltV) ∧ Below w.heap.size w wr) (fun _ i _ => n - (intOf i).toNat)
  case atStart => exact ⟨0, none, 0, Nat.zero_le _, rfl, rfl, HT0.out, by simpa [mksOf] using World.ownsRow_nil _ _ _ _, Below.refl _ _⟩
  case round =>
    obtain ⟨k, A, c, hk, rfl, rfl, hall, hown, hb⟩ := hrel
    have HALL := Lib.hid hall
    have HO := Lib.hid hown
    have HB := Lib.hid hb
    clear hall hown hb
    by_cases hlt : k < n
    · have hlt2 : (k : Int) < (n : Int) := by omega
      have hks : k < zs.length := by rw [HL.out]; exact hlt
      obtain ⟨b, off, rfl, hbb, hc⟩ := Strs.get (Strs.under H.out HB.out) k hlt
      rw [List.getElem_map] at hc
      obtain ⟨z, hz⟩ : ∃ z, z = zs[k] := ⟨_, rfl⟩
      rw [← hz] at hc
      have HG := Lib.hid (mk_get z)
      obtain ⟨f, hf⟩ : ∃ f, f = (gm z).1 := ⟨_, rfl⟩
      obtain ⟨ec, hec⟩ : ∃ f, f = (gm z).2 := ⟨_, rfl⟩
      rw [← hf, ← hec] at HG
      obtain ⟨sz, hsz⟩ : ∃ s, s = mkS z := ⟨_, rfl⟩
      rw [← hsz] at HG hc
      have HZ := Lib.hid hz
      have HF := Lib.hid hf
      have HEC := Lib.hid hec
      clear hz hf hec hsz
      by_cases he : ec = 0
      · subst he
        have HN := Lib.hid (show ∀ y ∈ zs.take (k + 1), mkB y = true from fun y hy => by
          rw [List.take_succ_eq_append_getElem hks] at hy
          rcases List.mem_append.1 hy with h1 | h1
          · exact HALL.out y h1
          · rw [List.mem_singleton, ← HZ.out] at h1
            rw [h1]
            exact decide_eq_true HEC.out.symm)
        have HM := Lib.hid (show (mksOf (zs.take (k + 1))).map fltV = (mksOf (zs.take k)).map fltV ++ [fltV f] by
          unfold mksOf
          rw [List.take_succ_eq_append_getElem hks, List.map_append, List.map_append, ← HZ.out, HF.out]
          rfl)
        go_wp2_with fail
        refine (HG.out _).mono ?_
        rintro e w2 ⟨rfl, b2⟩
        have HB2 := Lib.hid (HB.out.trans (b2.mono HB.out.size))
        have hw2 := HB2.out.size
        have HO2 := Lib.hid (show w2.ownsRow w.heap.size 89 1 (.slice A k c) k ((mksOf (zs.take k)).map fltV) by
          refine ⟨HO.out.1, ?_⟩
          rcases HO.out.2 with h2 | ⟨r, cp, cur, hv, hbr, hhr, hrest⟩
          · exact .inl h2
          · exact .inr ⟨r, cp, cur, hv, hbr, (b2.block r (Gn.heap_lt hhr)).trans hhr, hrest⟩)
        clear b2
        go_wp2_with ((at_builtin; refine wpList_append_own _ rfl _ _ 44 rfl w.heap.size 89 i0 (.float .f64 0) 1 8 Try.underlying44 hi0 hz0 hz1 hz2 rfl (by decide) _ _ _ rfl (HO2.out.alloc _) ⟨w2.heap.size, 0, none⟩ 1 1 [fltV f] rfl rfl ?c1 ?c2 ?c3 ?c4 ?c5 ?_))
        case c1 => exact cell_one_new _ _ _
        case c2 => simp [Value.oneCell', fltV]
        case c3 => unfold maxLen; omega
        case c4 => omega
        case c5 => simp; omega
        intro v' w4 hown4 hgrow4 _
        have HO4 := Lib.hid hown4
        have HB4 := Lib.hid (grown_below hgrow4 (HB2.out.alloc hw2 (.cells #[fltV f] 89)) (fun k hk => Gn.own_block (HO2.out.alloc (.cells #[fltV f] 89)) k hk))
        clear hown4 hgrow4
        go_wp2
        obtain ⟨A', cap', hv⟩ := Gn.slice_of HO4.out
        exact ⟨⟨k + 1, A', cap', by omega, by go_num, hv, HN.out, by rw [HM.out, ← hv]; exact HO4.out, HB4.out⟩, by simp [intOf]; omega⟩
      · have hz1' : ((ec : Int) != 0) = true := by rw [bne_iff_ne]; omega
        have HFF := Lib.hid (show mksB zs = false from by
          rw [Bool.eq_false_iff]
          intro h
          have := List.all_eq_true.1 h zs[k] (List.getElem_mem hks)
          rw [← HZ.out] at this
          exact he (HEC.out.trans (of_decide_eq_true this)))
        clear he
        go_wp2_with fail
        refine (HG.out _).mono ?_
        rintro e w2 ⟨rfl, b2⟩
        have HB2 := Lib.hid (HB.out.trans (b2.mono HB.out.size))
        clear b2
        go_wp2
        rw [HP.out]
        unfold GivesM
        rw [HFF.out]
        exact ⟨none, 0, rfl, World.ownsRow_nil _ _ _ _, HB2.out⟩
    · have hke : k = n := by omega
      subst hke
      have htk : zs.take k = zs := List.take_of_length_le (by rw [HL.out]; exact Nat.le_refl _)
      have HTT := Lib.hid (show mksB zs = true from List.all_eq_true.2 (by have := HALL.out; rwa [htk] at this))
      have HO9 := Lib.hid (show wr.ownsRow w.heap.size 89 1 (.slice A zs.length c) zs.length ((mksOf zs).map fltV) by have := HO.out; rw [htk] at this; rw [HL.out]; exact this)
      clear htk
      go_wp2
      rw [HP.out]
      unfold GivesM
      rw [HTT.out]
      exact ⟨A, c, by rw [if_pos rfl, HL.out]; rfl, HO9.out, HB.out⟩
end Go.Proofs.Ytbkfbejbloclgaa.Cm
