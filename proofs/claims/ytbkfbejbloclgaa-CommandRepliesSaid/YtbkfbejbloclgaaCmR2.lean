/-
  Layer 21: PutReply, the program's.
-/
import Derived.Test.YtbkfbejbloclgaaCmR1
namespace Go.Proofs.Ytbkfbejbloclgaa.Cm
open Go.RowKit
open Oct (pb bs Strs rInt rText rTexts rErr rEnd At Sep Gives strV OutSt OSep app eInt eText eTexts eLen rng)
open Lx (goodB)
open Gn (Asks)
open Mk (gm canon)
set_option maxRecDepth 100000
set_option linter.unusedSimpArgs false
set_option linter.unusedVariables false

theorem put8 (b : Nat) (hb : b < 18446744073709551616) (w : World) : Calls Try.prog 48 #[.float .f64 b] w fun e w' => e = .returned (.string (mk8 b)) ∧ Below w.heap.size w w' := Mk.put_any b hb w
theorem own_below {w w' : World} {base : Nat} {e : TypeId} {size : Nat} {v : Value} {n : Nat} {xs : List Value} (h : w.ownsRow base e size v n xs) (b : Below w.heap.size w w') : w'.ownsRow base e size v n xs := by
  refine ⟨h.1, ?_⟩
  rcases h.2 with h2 | ⟨r, cp, cur, hv, hbr, hhr, hrest⟩
  · exact .inl h2
  · exact .inr ⟨r, cp, cur, hv, hbr, (b.block r (Gn.heap_lt hhr)).trans hhr, hrest⟩
set_option maxHeartbeats 8000000 in
theorem putr_any (code line col count : Int) (text : ByteArray) (texts : List ByteArray) (marks : List Nat) (a b : Option Addr) (n cap m cap2 : Nat) (w : World) (hn : texts.length = n) (hm : marks.length = m) (h : Strs w a n texts) (hf : Flts w b m marks) (hlow : ∀ x ∈ marks, x < 18446744073709551616) (hnn : n ≤ 9223372036854775807) (hmm : m ≤ 9223372036854775807) :
    Calls Try.prog 18 #[.agg #[.int .i64 code, .int .i64 line, .int .i64 col, .int .i64 count, .string text, .slice a n cap, .slice b m cap2]] w fun e w' => e = .returned (.string (mkS (putR ⟨code, line, col, count, text, texts, marks⟩))) ∧ Below w.heap.size w w' := by
  obtain ⟨V, hV⟩ : ∃ V, V = w.alloc (.cells #[.int .i64 code, .int .i64 line, .int .i64 col, .int .i64 count, .string text, .slice a n cap, .slice b m cap2] 46) := ⟨_, rfl⟩
  have hb : Below w.heap.size w V := by rw [hV]; exact (Below.refl _ w).alloc (Nat.le_refl _) _
  have hx : V.heap[w.heap.size]? = some (.cells #[.int .i64 code, .int .i64 line, .int .i64 col, .int .i64 count, .string text, .slice a n cap, .slice b m cap2] 46 (0, 0)) := by rw [hV]; exact heap_alloc_new w _
  obtain ⟨res, hres⟩ : ∃ r, r = mkS (putR ⟨code, line, col, count, text, texts, marks⟩) := ⟨_, rfl⟩
  rw [← hres]
  have HR := Lib.hid hres
  have HS := Lib.hid (Strs.under h hb)
  have HF := Lib.hid (Flts.under hf hb)
  have HX := Lib.hid hx
  have HB := Lib.hid hb
  have HV := Lib.hid hV
  have HN := Lib.hid hn
  have HM := Lib.hid hm
  have HLOW := Lib.hid hlow
  have x0 := cell_of_row _ _ 0 _ _ (0, 0) hx
  have x1 := cell_of_row _ _ 1 _ _ (0, 0) hx
  have x2 := cell_of_row _ _ 2 _ _ (0, 0) hx
  have x3 := cell_of_row _ _ 3 _ _ (0, 0) hx
  have x4 := cell_of_row _ _ 4 _ _ (0, 0) hx
  have x5 := cell_of_row _ _ 5 _ _ (0, 0) hx
  have x6 := cell_of_row _ _ 6 _ _ (0, 0) hx
  clear hres hb hx hV h hf hlow
  by_cases h1 : (4096 : Int) < (n : Int)
  · have HF0 := Lib.hid (show res = mkS [] by rw [HR.out]; unfold putR; rw [if_pos (.inl (by dsimp only; omega))])
    clear hn hm
    go_enter Try.func18, Try.ntmps18
    go_upto_region 1 with fail
    rw [← HV.out]
    go_wp2
    go_ret
    exact ⟨by rw [HF0.out]; rfl, HB.out⟩
  · have h1' : decide ((4096 : Int) < (n : Int)) = false := decide_eq_false h1
    by_cases h2 : (4096 : Int) < (m : Int)
    · have HF0 := Lib.hid (show res = mkS [] by rw [HR.out]; unfold putR; rw [if_pos (.inr (by dsimp only; omega))])
      clear hn hm
      go_enter Try.func18, Try.ntmps18
      go_upto_region 1 with fail
      rw [← HV.out]
      go_wp2
      go_ret
      exact ⟨by rw [HF0.out]; rfl, HB.out⟩
    · have h2' : decide ((4096 : Int) < (m : Int)) = false := decide_eq_false h2
      have HF0 := Lib.hid (show res = mkS ((eRep ⟨code, line, col, count, text, texts, marks⟩).getD []) by rw [HR.out]; unfold putR; rw [if_neg (by dsimp only; omega)])
      have hn4 : n ≤ 4096 := by omega
      have hm4 : m ≤ 4096 := by omega
      obtain ⟨i0, hi0, hz0, hz1, hz2⟩ := info_parts Oct.strinfo
      clear hn hm
      go_enter Try.func18, Try.ntmps18
      go_upto_region 1 with fail
      rw [← HV.out]
      go_wp2_with fail
      go_loopw [3, 22] (fun v i wr => ∃ (k : Nat) (A : Option Addr) (c : Nat), k ≤ m ∧ i = .int .i64 k ∧ v = .slice A k c ∧ wr.ownsRow V.heap.size 9 1 (.slice A k c) k ((marks.take k).map fun x => Value.string (mk8 x)) ∧ Below V.heap.size V wr) (fun _ i _ => m - (intOf i).toNat)
      case atStart => exact ⟨0, none, 0, Nat.zero_le _, rfl, rfl, by simpa using World.ownsRow_nil _ _ _ _, Below.refl _ _⟩
      case round =>
        obtain ⟨k, A, c, hk, rfl, rfl, hown, hbk⟩ := hrel
        have HO := Lib.hid hown
        have HBK := Lib.hid hbk
        clear hown hbk
        by_cases hlt : k < m
        · have hlt2 : (k : Int) < (m : Int) := by omega
          have hks : k < marks.length := by rw [HM.out]; exact hlt
          obtain ⟨b0, off, rfl, hbb, hc⟩ := Flts.get (Flts.under HF.out HBK.out) k hlt
          obtain ⟨z, hz⟩ : ∃ z, z = marks[k] := ⟨_, rfl⟩
          rw [← hz] at hc
          have HP := Lib.hid (put8 z (by rw [hz]; exact HLOW.out _ (List.getElem_mem _)))
          obtain ⟨t8, ht8⟩ : ∃ t, t = mk8 z := ⟨_, rfl⟩
          rw [← ht8] at HP
          have HNX := Lib.hid (show ((marks.take (k + 1)).map fun x => Value.string (mk8 x)) = ((marks.take k).map fun x => Value.string (mk8 x)) ++ [Value.string t8] by
            rw [List.take_succ_eq_append_getElem hks, List.map_append, ← hz, ht8]; rfl)
          clear hz ht8
          go_wp2_with fail
          refine (HP.out _).mono ?_
          rintro e w2 ⟨rfl, b2⟩
          have HB2 := Lib.hid (HBK.out.trans (b2.mono HBK.out.size))
          have hw2 := HB2.out.size
          have HO2 := Lib.hid (own_below HO.out b2)
          clear b2
          go_wp2_with ((at_builtin; refine wpList_append_own _ rfl _ _ 22 rfl V.heap.size 9 i0 (.string ByteArray.empty) 1 16 Try.underlying22 hi0 hz0 hz1 hz2 rfl (by decide) _ _ _ rfl (HO2.out.alloc _) ⟨w2.heap.size, 0, none⟩ 1 1 [Value.string t8] rfl rfl ?c1 ?c2 ?c3 ?c4 ?c5 ?_))
          case c1 => exact cell_one_new _ _ _
          case c2 => simp [Value.oneCell']
          case c3 => unfold maxLen; omega
          case c4 => omega
          case c5 => simp; omega
          intro v' w4 hown4 hgrow4 _
          have HO4 := Lib.hid hown4
          have HB4 := Lib.hid (grown_below hgrow4 (HB2.out.alloc hw2 (.cells #[Value.string t8] 9)) (fun k hk => Gn.own_block (HO2.out.alloc (.cells #[Value.string t8] 9)) k hk))
          clear hown4 hgrow4
          go_wp2
          obtain ⟨A', cap', hv⟩ := Gn.slice_of HO4.out
          exact ⟨⟨k + 1, A', cap', by omega, by go_num, hv, by rw [HNX.out, List.map_take, ← hv]; exact HO4.out, HB4.out⟩, by simp [intOf]; omega⟩
        · have hke : k = m := by omega
          subst hke
          have htk : marks.take k = marks := List.take_of_length_le (by rw [HM.out]; exact Nat.le_refl _)
          have HSM := Lib.hid (show Strs wr A k (marks.map mk8) from strs_own2 (base := V.heap.size) (cap := c) (by have := HO.out; rw [htk] at this; rw [List.map_map]; exact this))
          have hx1 := (HBK.out.block _ (Gn.heap_lt HX.out)).trans HX.out
          obtain ⟨U, hU⟩ : ∃ U, U = wr.alloc (.cells #[.pointer none, .int .i64 0, .bool false] 63) := ⟨_, rfl⟩
          have hst : OutSt U wr.heap.size (wr.heap.size + 1) (some []) := by rw [hU]; exact Oct.OutSt.new wr
          have hbU : Below wr.heap.size wr U := by rw [hU]; exact (Below.refl _ wr).alloc (Nat.le_refl _) _
          have hxU := (hbU.block _ (Gn.heap_lt hx1)).trans hx1
          have hlt9 : w.heap.size < wr.heap.size := Gn.heap_lt hx1
          obtain ⟨g, hg⟩ : ∃ g, g = wr.heap.size := ⟨_, rfl⟩
          rw [← hg] at hst hlt9
          have HSU := Lib.hid (show Strs U a n texts from Strs.under (Strs.under HS.out HBK.out) hbU)
          have HMU := Lib.hid (Strs.under HSM.out hbU)
          have HSR := Lib.hid (show Strs wr a n texts from Strs.under HS.out HBK.out)
          have HGA := Lib.hid (show ∀ (a : Option Addr) (n : Nat) (l : List ByteArray), Strs wr a n l → ∀ b off, 0 < n → a = some ⟨b, off, none⟩ → b < g from fun a n l hs b off h0 e => by
            obtain ⟨b2, off2, e2, hb2, _⟩ := hs.2 h0
            rw [e] at e2
            injection e2 with e2
            injection e2 with e2 _ _
            rw [hg]
            omega)
          have HBU := Lib.hid ((HB.out.trans (HBK.out.mono HB.out.size)).trans (hbU.mono (by have := HBK.out.size; have := HB.out.size; omega)))
          have HKB := Lib.hid (fun (W : World) (h : OSep g (g + 1) U W) => ((h.below (B := g) (by omega) (by omega)).block w.heap.size hlt9).trans hxU)
          have HST := Lib.hid hst
          have HU := Lib.hid hU
          have HGG := Lib.hid hg
          have HLT := Lib.hid hlt9
          have HCI := Lib.hid (fun (w : World) (st : Option (List UInt8)) (q : Int) (h : OutSt w g (g + 1) st) (hl : Oct.len st ≤ 20000000000) => Oct.int_any _ _ st q w h (by omega))
          have HCT := Lib.hid (fun (w : World) (st : Option (List UInt8)) (q : ByteArray) (h : OutSt w g (g + 1) st) (hl : Oct.len st ≤ 20000000000) => Oct.text_any _ _ st q w h (by omega))
          have HSS := Lib.hid (fun (w : World) (st : Option (List UInt8)) (A : Option Addr) (n c : Nat) (l : List ByteArray) (hs : Strs wr A n l) (hu : Strs U A n l) (ho : OSep g (g + 1) U w) (h : OutSt w g (g + 1) st) (hl : Oct.len st ≤ 20000000000) => Oct.texts_any _ _ st A n c l w h ⟨hs.1, fun h0 => by
            obtain ⟨b, off, e, hb, hc⟩ := hu.2 h0
            have hlt := HGA.out A n l hs b off h0 e
            exact ⟨b, off, e, by have := (ho.below (B := g) (by omega) (by omega)).size; omega, fun i hi => ((ho.below (B := g) (by omega) (by omega)).cell (p := ⟨b, off + i, none⟩) hlt).trans (hc i hi)⟩⟩ (by omega) (fun h0 b off e => by have := HGA.out A n l hs b off h0 e; omega))
          have y0 := cell_of_row _ _ 0 _ _ (0, 0) hxU
          clear hx1 hU hst hbU hxU hlt9 hg htk x0 x1 x2 x3 x4 x5 x6
          go_upto_region 10 with fail
          rw [← HU.out, ← HGG.out]
          go_wp2_with fail
          refine (HCI.out _ _ _ HST.out (by show 0 ≤ _; omega)).mono ?_
          rintro e v1 ⟨rfl, ho, hs⟩
          have ho : OutSt v1 g (g + 1) (eInt code) := by
            have h0 : app (some []) (eInt code) = eInt code := by cases eInt code <;> simp [app]
            rw [← h0]
            exact ho
          have HO1 := Lib.hid ho
          have HSEP1 := Lib.hid (hs)
          have HL1 := Lib.hid (show Oct.len (eInt code) ≤ 8 from Oct.len_eInt code)
          have y1 := cell_of_row _ _ 1 _ _ (0, 0) (HKB.out _ HSEP1.out)
          clear ho hs y0
          go_wp2_with fail
          refine (HCI.out _ _ _ HO1.out (by have := HL1.out; omega)).mono ?_
          rintro e v2 ⟨rfl, ho, hs⟩
          have HO2 := Lib.hid ho
          have HSEP2 := Lib.hid (HSEP1.out.trans hs)
          have HL2 := Lib.hid (show Oct.len (app (eInt code) (eInt line)) ≤ 16 by
            have h1 := Oct.len_app (eInt code) (eInt line)
            have h2 := Oct.len_eInt line
            have h3 := HL1.out
            omega)
          have y2 := cell_of_row _ _ 2 _ _ (0, 0) (HKB.out _ HSEP2.out)
          clear ho hs y1
          go_wp2_with fail
          refine (HCI.out _ _ _ HO2.out (by have := HL2.out; omega)).mono ?_
          rintro e v3 ⟨rfl, ho, hs⟩
          have HO3 := Lib.hid ho
          have HSEP3 := Lib.hid (HSEP2.out.trans hs)
          have HL3 := Lib.hid (show Oct.len (app (app (eInt code) (eInt line)) (eInt col)) ≤ 24 by
            have h1 := Oct.len_app (app (eInt code) (eInt line)) (eInt col)
            have h2 := Oct.len_eInt col
            have h3 := HL2.out
            omega)
          have y3 := cell_of_row _ _ 3 _ _ (0, 0) (HKB.out _ HSEP3.out)
          clear ho hs y2
          go_wp2_with fail
          refine (HCI.out _ _ _ HO3.out (by have := HL3.out; omega)).mono ?_
          rintro e v4 ⟨rfl, ho, hs⟩
          have HO4 := Lib.hid ho
          have HSEP4 := Lib.hid (HSEP3.out.trans hs)
          have HL4 := Lib.hid (show Oct.len (app (app (app (eInt code) (eInt line)) (eInt col)) (eInt count)) ≤ 32 by
            have h1 := Oct.len_app (app (app (eInt code) (eInt line)) (eInt col)) (eInt count)
            have h2 := Oct.len_eInt count
            have h3 := HL3.out
            omega)
          have y4 := cell_of_row _ _ 4 _ _ (0, 0) (HKB.out _ HSEP4.out)
          clear ho hs y3
          go_wp2_with fail
          refine (HCT.out _ _ _ HO4.out (by have := HL4.out; omega)).mono ?_
          rintro e v5 ⟨rfl, ho, hs⟩
          have HO5 := Lib.hid ho
          have HSEP5 := Lib.hid (HSEP4.out.trans hs)
          have HL5 := Lib.hid (show Oct.len (app (app (app (app (eInt code) (eInt line)) (eInt col)) (eInt count)) (eText (bs text))) ≤ 65576 by
            have h1 := Oct.len_app (app (app (app (eInt code) (eInt line)) (eInt col)) (eInt count)) (eText (bs text))
            have h2 := Oct.len_eText (bs text)
            have h3 := HL4.out
            omega)
          have y5 := cell_of_row _ _ 5 _ _ (0, 0) (HKB.out _ HSEP5.out)
          clear ho hs y4
          go_wp2_with fail
          refine (HSS.out _ _ a n cap texts HSR.out HSU.out HSEP5.out HO5.out (by have := HL5.out; omega)).mono ?_
          rintro e v6 ⟨rfl, ho, hs⟩
          have HO6 := Lib.hid ho
          have HSEP6 := Lib.hid (HSEP5.out.trans hs)
          have HL6 := Lib.hid (show Oct.len (app (app (app (app (app (eInt code) (eInt line)) (eInt col)) (eInt count)) (eText (bs text))) (eTexts texts)) ≤ 5000065576 by
            have h1 := Oct.len_app (app (app (app (app (eInt code) (eInt line)) (eInt col)) (eInt count)) (eText (bs text))) (eTexts texts)
            have h2 := len_eTexts texts (by have := HN.out; omega)
            have h3 := HL5.out
            omega)
          clear ho hs y5
          go_wp2_with fail
          refine (HSS.out _ _ A k c (marks.map mk8) HSM.out HMU.out HSEP6.out HO6.out (by have := HL6.out; omega)).mono ?_
          rintro e v7 ⟨rfl, ho, hs⟩
          have HO7 := Lib.hid ho
          have HSEP7 := Lib.hid (HSEP6.out.trans hs)
          have HL7 := Lib.hid (show Oct.len (app (app (app (app (app (app (eInt code) (eInt line)) (eInt col)) (eInt count)) (eText (bs text))) (eTexts texts)) (eTexts (marks.map mk8))) ≤ 10000065576 by
            have h1 := Oct.len_app (app (app (app (app (app (eInt code) (eInt line)) (eInt col)) (eInt count)) (eText (bs text))) (eTexts texts)) (eTexts (marks.map mk8))
            have h2 := len_eTexts (marks.map mk8) (by rw [List.length_map]; have := HM.out; omega)
            have h3 := HL6.out
            omega)
          clear ho hs
          go_wp2_with fail
          refine (Oct.bytes_any _ _ _ _ HO7.out).mono ?_
          rintro e v9 ⟨rfl, hd⟩
          have HE := Lib.hid ((HBU.out.trans (HSEP7.out.below (B := w.heap.size) (by have := HLT.out; omega) (by have := HLT.out; omega))).trans (hd.below _))
          clear hd
          obtain ⟨fin, hfin⟩ : ∃ f, f = (eRep ⟨code, line, col, count, text, texts, marks⟩).getD [] := ⟨_, rfl⟩
          have HFIN := Lib.hid hfin
          clear hfin
          go_wp2_with fail
          go_ret
          exact ⟨by rw [HF0.out]; rfl, HE.out⟩
end Go.Proofs.Ytbkfbejbloclgaa.Cm
