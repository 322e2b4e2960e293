/-
  Layer 21: PutReply, the document's.
-/
import Derived.Test.YtbkfbejbloclgaaCmR6
namespace Go.Proofs.Ytbkfbejbloclgaa.Cm
open Go.RowKit
open Oct (pb bs Strs rInt rText rTexts rErr rEnd At Sep Gives strV OutSt OSep app eInt eText eTexts eLen rng)
open Lx (goodB)
open Gn (Asks)
open Mk (gm canon)
set_option maxRecDepth 100000
set_option linter.unusedSimpArgs false
set_option linter.unusedVariables false

def qMarks (l : List Nat) : List UInt8 := qStrs (l.map mk8)
def qRep (r : Rep) : List UInt8 := qNums [r.code, r.line, r.col, r.count] 4 ++ (qText r.text ++ qTexts r.texts ++ pb (r.marks.length : Int)) ++ qMarks r.marks
theorem eInt_none {n : Int} (h : farB n = true) : eInt n = none := by
  unfold eInt
  rw [if_pos]
  unfold rng
  unfold farB at h
  simpa using h
theorem eText_none {s : ByteArray} (h : 65536 < s.size) : eText (bs s) = none := by
  unfold eText eLen
  rw [show (bs s).length = s.size from rfl, if_pos (by omega)]
  rfl
theorem eStrs_none (ss : List ByteArray) (i : Nat) (hi : i < ss.length) (h : 65536 < (ss[i]).size) : ∀ k, i < k → Oct.eStrs ss k = none
  | 0, hk => absurd hk (by omega)
  | k + 1, hk => by
    rw [Oct.eStrs]
    by_cases e : i = k
    · subst e
      rw [List.getD_eq_getElem?_getD, List.getElem?_eq_getElem hi, Option.getD_some, eText_none h, Oct.app_none]
    · rw [eStrs_none ss i hi h k (by omega)]
      rfl
theorem eTexts_none (ss : List ByteArray) (hl : ss.length ≤ 65536) (i : Nat) (hi : i < ss.length) (h : 65536 < (ss[i]).size) : eTexts ss = none := by
  unfold eTexts
  rw [if_neg (by omega), eStrs_none ss i hi h _ hi, Oct.app_none]
theorem mk8_size (b : Nat) : (mk8 b).size = 8 := by show (Oct.be 8 (canon b)).toArray.size = 8; simp [Oct.be_length]
theorem eRep_some (r : Rep) (h0 : farB r.code = false) (h1 : farB r.line = false) (h2 : farB r.col = false) (h3 : farB r.count = false) (h4 : r.text.size ≤ 65536) (h5 : r.texts.length ≤ 65536) (h6 : ∀ s ∈ r.texts, s.size ≤ 65536) (h7 : r.marks.length ≤ 65536) : eRep r = some (qRep r) := by
  unfold eRep qRep
  rw [eInt_some _ h0, eInt_some _ h1, eInt_some _ h2, eInt_some _ h3, eText_some _ h4, eTexts_some _ h5 h6, eTexts_some (r.marks.map mk8) (by rw [List.length_map]; exact h7) (fun s hs => by obtain ⟨b, _, rfl⟩ := List.mem_map.1 hs; rw [mk8_size]; decide)]
  unfold qMarks qTexts
  simp only [app, qNums, List.getD_cons_zero, List.getD_cons_succ, List.nil_append, List.length_map, List.append_assoc]
theorem app_none_l (x : Option (List UInt8)) : app none x = none := rfl
theorem eRep_far (r : Rep) (h : farB r.code = true ∨ farB r.line = true ∨ farB r.col = true ∨ farB r.count = true) : eRep r = none := by
  unfold eRep
  rcases h with h | h | h | h <;> rw [eInt_none h] <;> simp only [app_none_l, Oct.app_none]
theorem eRep_text (r : Rep) (h : 65536 < r.text.size) : eRep r = none := by
  unfold eRep
  rw [eText_none h]; simp only [app_none_l, Oct.app_none]
theorem eRep_texts (r : Rep) (hl : r.texts.length ≤ 65536) (i : Nat) (hi : i < r.texts.length) (h : 65536 < (r.texts[i]).size) : eRep r = none := by
  unfold eRep
  rw [eTexts_none _ hl i hi h]; simp only [app_none_l, Oct.app_none]
theorem qMarks_len (l : List Nat) : (qMarks l).length ≤ l.length * 16 := by
  have h := qStrs_len (l.map mk8) 8 (fun s hs => by obtain ⟨b, _, rfl⟩ := List.mem_map.1 hs; rw [mk8_size]; decide)
  rwa [List.length_map] at h
theorem qMarks_take (l : List Nat) (k : Nat) (h : k < l.length) : qMarks (l.take (k + 1)) = qMarks (l.take k) ++ qText (mk8 l[k]) := by
  unfold qMarks qStrs
  rw [List.take_succ_eq_append_getElem h, List.map_append, List.map_append, List.flatten_append]
  simp
set_option maxHeartbeats 16000000 in
theorem rputr_any (code line col count : Int) (text : ByteArray) (texts : List ByteArray) (marks : List Nat) (a b : Option Addr) (n cap m cap2 : Nat) (w : World) (hn : texts.length = n) (hm : marks.length = m) (h : Strs w a n texts) (hf : Flts w b m marks) (hlow : ∀ x ∈ marks, x < 18446744073709551616) (hnn : n ≤ 9223372036854775807) (hmm : m ≤ 9223372036854775807) (htt : text.size ≤ 9223372036854775807) :
    Calls Try.prog 19 #[.agg #[.int .i64 code, .int .i64 line, .int .i64 col, .int .i64 count, .string text, .slice a n cap, .slice b m cap2]] w fun e w' => e = .returned (.string (mkS (putR ⟨code, line, col, count, text, texts, marks⟩))) ∧ Below w.heap.size w w' := by
  obtain ⟨V, hV⟩ : ∃ V, V = w.alloc (.cells #[.int .i64 code, .int .i64 line, .int .i64 col, .int .i64 count, .string text, .slice a n cap, .slice b m cap2] 48) := ⟨_, rfl⟩
  have hb : Below w.heap.size w V := by rw [hV]; exact (Below.refl _ w).alloc (Nat.le_refl _) _
  have hx : V.heap[w.heap.size]? = some (.cells #[.int .i64 code, .int .i64 line, .int .i64 col, .int .i64 count, .string text, .slice a n cap, .slice b m cap2] 48 (0, 0)) := by rw [hV]; exact heap_alloc_new w _
  obtain ⟨res, hres⟩ : ∃ r, r = mkS (putR ⟨code, line, col, count, text, texts, marks⟩) := ⟨_, rfl⟩
  rw [← hres]
  have HR := Lib.hid hres
  have HS := Lib.hid (Strs.under h hb)
  have HF := Lib.hid (Flts.under hf hb)
  have HX := Lib.hid hx
  have HB := Lib.hid hb
  have HV := Lib.hid hV
  have HN := Lib.hid hn
  have HM := Lib.hid hm
  have HLOW := Lib.hid hlow
  have x0 := cell_of_row _ _ 0 _ _ (0, 0) hx
  have x1 := cell_of_row _ _ 1 _ _ (0, 0) hx
  have x2 := cell_of_row _ _ 2 _ _ (0, 0) hx
  have x3 := cell_of_row _ _ 3 _ _ (0, 0) hx
  have x4 := cell_of_row _ _ 4 _ _ (0, 0) hx
  have x5 := cell_of_row _ _ 5 _ _ (0, 0) hx
  have x6 := cell_of_row _ _ 6 _ _ (0, 0) hx
  clear hres hb hx hV h hf hlow
  by_cases h1 : (4096 : Int) < (n : Int)
  · have HF0 := Lib.hid (show res = mkS [] by rw [HR.out]; unfold putR; rw [if_pos (.inl (by dsimp only; omega))])
    clear hn hm
    go_enter Try.func19, Try.ntmps19
    go_upto_region 1 with fail
    rw [← HV.out]
    go_wp2
    go_ret
    exact ⟨by rw [HF0.out]; rfl, HB.out⟩
  · have h1' : decide ((4096 : Int) < (n : Int)) = false := decide_eq_false h1
    by_cases h2 : (4096 : Int) < (m : Int)
    · have HF0 := Lib.hid (show res = mkS [] by rw [HR.out]; unfold putR; rw [if_pos (.inr (by dsimp only; omega))])
      clear hn hm
      go_enter Try.func19, Try.ntmps19
      go_upto_region 1 with fail
      rw [← HV.out]
      go_wp2
      go_ret
      exact ⟨by rw [HF0.out]; rfl, HB.out⟩
    · have h2' : decide ((4096 : Int) < (m : Int)) = false := decide_eq_false h2
      have HPR := Lib.hid (show res = mkS ((eRep ⟨code, line, col, count, text, texts, marks⟩).getD []) by rw [HR.out]; unfold putR; rw [if_neg (by dsimp only; omega)])
      have hn4 : n ≤ 4096 := by omega
      have hm4 : m ≤ 4096 := by omega
      by_cases h3 : (65536 : Int) < (text.size : Int)
      · have HF0 := Lib.hid (show res = mkS [] by rw [HPR.out, eRep_text _ (by dsimp only; omega)]; rfl)
        clear hn hm
        go_enter Try.func19, Try.ntmps19
        go_upto_region 1 with fail
        rw [← HV.out]
        go_wp2
        go_ret
        exact ⟨by rw [HF0.out]; rfl, HB.out⟩
      · have h3' : decide ((65536 : Int) < (text.size : Int)) = false := decide_eq_false h3
        clear hn hm
        go_enter Try.func19, Try.ntmps19
        go_upto_region 1 with fail
        rw [← HV.out]
        obtain ⟨V1, hV1⟩ : ∃ U, U = V.alloc (.cells #[.int .i64 code, .int .i64 line, .int .i64 col, .int .i64 count] 3) := ⟨_, rfl⟩
        have hb1 : Below V.heap.size V V1 := by rw [hV1]; exact (Below.refl _ _).alloc (Nat.le_refl _) _
        have hx1 : V1.heap[V.heap.size]? = some (.cells #[.int .i64 code, .int .i64 line, .int .i64 col, .int .i64 count] 3 (0, 0)) := by rw [hV1]; exact heap_alloc_new _ _
        have HB1 := Lib.hid (HB.out.trans (hb1.mono HB.out.size))
        have HX1 := Lib.hid ((hb1.block _ (Gn.heap_lt HX.out)).trans HX.out)
        have HS1 := Lib.hid (Strs.under HS.out hb1)
        have HF1 := Lib.hid (Flts.under HF.out hb1)
        obtain ⟨g, hg⟩ : ∃ g, g = V.heap.size := ⟨_, rfl⟩
        rw [← hg] at hx1
        have HXN := Lib.hid hx1
        have HV1 := Lib.hid hV1
        have HG := Lib.hid hg
        clear hV1 hb1 hx1 hg
        go_upto_region 4 with fail
        rw [← HV1.out, ← HG.out]
        clear x0 x1 x2 x3 x4 x5 x6
        go_wp2_with fail
        go_loopw [4, 5] (fun s i wr => ∃ k : Nat, k ≤ 4 ∧ i = .int .i64 k ∧ s = .string (mkS (qNums [code, line, col, count] k)) ∧ Below V1.heap.size V1 wr ∧ ∀ j, j < k → ∀ (h : j < [code, line, col, count].length), farB [code, line, col, count][j] = false) (fun _ i _ => 4 - (intOf i).toNat)
        case atStart => exact ⟨0, by omega, rfl, rfl, Below.refl _ _, fun j h => absurd h (by omega)⟩
        case round =>
          obtain ⟨k, hk, rfl, rfl, hbw, hall⟩ := hrel
          have HBW := Lib.hid hbw
          have HALL := Lib.hid hall
          clear hbw hall
          by_cases hlt : k < 4
          · have hlt4 : (k : Int) < 4 := by omega
            have hks : k < [code, line, col, count].length := hlt
            have hcell : wr.cell? ⟨g, 0 + k, none⟩ = some (.int .i64 [code, line, col, count][k]) := by
              have hxc := (HBW.out.block _ (Gn.heap_lt HXN.out)).trans HXN.out
              rcases (by omega : k = 0 ∨ k = 1 ∨ k = 2 ∨ k = 3) with rfl | rfl | rfl | rfl
              · exact cell_of_row _ _ 0 _ _ (0, 0) hxc
              · exact cell_of_row _ _ 1 _ _ (0, 0) hxc
              · exact cell_of_row _ _ 2 _ _ (0, 0) hxc
              · exact cell_of_row _ _ 3 _ _ (0, 0) hxc
            rw [Nat.zero_add] at hcell
            obtain ⟨acc, hacc⟩ : ∃ x, x = mkS (qNums [code, line, col, count] k) := ⟨_, rfl⟩
            rw [← hacc]
            have hal : acc.size ≤ 32 := by
              have h1 := qNums_len [code, line, col, count] k
              rw [hacc, mkS_size]
              omega
            obtain ⟨x, hx⟩ : ∃ x, x = [code, line, col, count][k] := ⟨_, rfl⟩
            rw [← hx] at hcell
            obtain ⟨s1, hs1⟩ : ∃ s, s = mkS (pb x) := ⟨_, rfl⟩
            have HP := Lib.hid (fun w => show Calls Try.prog 35 #[.int .i64 x] w fun e w' => e = .returned (.string s1) ∧ Below w.heap.size w w' by rw [hs1]; exact Oct.rput_any x w)
            have hsl : s1.toList = pb x := by rw [hs1, ByteArray.toList_eq]; exact bs_mkS _
            have hsz1 : s1.size ≤ 8 := by rw [hs1, mkS_size]; exact Oct.pb_len x
            have HXX := Lib.hid hx
            have HACC := Lib.hid hacc
            have HS1' := Lib.hid hs1
            clear hx hacc hs1
            cases hb : farB x with
            | true =>
              have hp1 : s1.toList = [] := by rw [hsl]; exact Oct.pb_no x (by unfold farB at hb; unfold Oct.rng; simpa using hb)
              have hp2 : s1.toList.isEmpty = true := by rw [hp1]; rfl
              have HFL := Lib.hid (show res = mkS [] by
                rw [HPR.out, eRep_far _ (by
                  dsimp only
                  rw [HXX.out] at hb
                  rcases (by omega : k = 0 ∨ k = 1 ∨ k = 2 ∨ k = 3) with rfl | rfl | rfl | rfl
                  · exact .inl hb
                  · exact .inr (.inl hb)
                  · exact .inr (.inr (.inl hb))
                  · exact .inr (.inr (.inr hb)))]
                rfl)
              clear hb hsl
              go_wp2_with fail
              refine (HP.out _).mono ?_
              rintro e v9 ⟨rfl, b9⟩
              have HB9 := Lib.hid (HBW.out.trans (b9.mono HBW.out.size))
              clear b9
              go_wp2
              go_ret
              exact ⟨by rw [HFL.out]; rfl, HB1.out.trans (HB9.out.mono HB1.out.size)⟩
            | false =>
              have hp1 : ¬ s1.toList = [] := by rw [hsl]; exact Oct.pb_ne x (by unfold farB at hb; unfold Oct.rng; simpa using hb)
              have hp2 : s1.toList.isEmpty = false := by rw [List.isEmpty_eq_false_iff]; exact hp1
              have hadd : ¬ 9223372036854775807 < acc.size + s1.size := by omega
              have HNX := Lib.hid (show acc ++ s1 = mkS (qNums [code, line, col, count] (k + 1)) by
                rw [HACC.out, HS1'.out, mkS_add, qNums, List.getD_eq_getElem?_getD, List.getElem?_eq_getElem hks, Option.getD_some, ← HXX.out])
              have HN2 := Lib.hid (show ∀ j, j < k + 1 → ∀ (h : j < [code, line, col, count].length), farB [code, line, col, count][j] = false from fun j hj h => by
                by_cases hjk : j = k
                · subst hjk; rw [← HXX.out]; exact hb
                · exact HALL.out j (by omega) h)
              clear hb hsl
              go_wp2_with fail
              refine (HP.out _).mono ?_
              rintro e v9 ⟨rfl, b9⟩
              have HB9 := Lib.hid (HBW.out.trans (b9.mono HBW.out.size))
              clear b9
              go_wp2_with fail
              refine ⟨⟨k + 1, by omega, by go_num, by rw [← HNX.out], HB9.out, HN2.out⟩, by simp [intOf]; omega⟩
          · have hke : k = 4 := by omega
            subst hke
            rw [show ((4 : Nat) : Int) = 4 from rfl]
            have hxr := (HBW.out.block _ (Gn.heap_lt HX1.out)).trans HX1.out
            have HXR := Lib.hid hxr
            have HSR := Lib.hid (Strs.under HS1.out HBW.out)
            have HFR := Lib.hid (Flts.under HF1.out HBW.out)
            have HBR := Lib.hid (HB1.out.trans (HBW.out.mono HB1.out.size))
            have x5 := cell_of_row _ _ 5 _ _ (0, 0) hxr
            clear hxr
            have HA0 := Lib.hid (show ∀ j, j < 0 → ∀ (h : j < texts.length), (texts[j]).size ≤ 65536 from fun j h => absurd h (by omega))
            obtain ⟨pre, hpre⟩ : ∃ s, s = mkS (qNums [code, line, col, count] 4) := ⟨_, rfl⟩
            rw [← hpre]
            have hprl : pre.size ≤ 32 := by rw [hpre, mkS_size]; exact qNums_len [code, line, col, count] 4
            have HPRE := Lib.hid hpre
            clear hpre
            obtain ⟨V2, rfl⟩ : ∃ w : World, w = wr := ⟨_, rfl⟩
            go_wp2_with fail
            go_loopw [7] (fun i wr => ∃ j : Nat, i = .int .i64 j ∧ j ≤ n ∧ wr = V2 ∧ ∀ t, t < j → ∀ (h : t < texts.length), (texts[t]).size ≤ 65536) (fun i _ => n - (intOf i).toNat)
            case atStart => exact ⟨0, rfl, Nat.zero_le _, rfl, HA0.out⟩
            case round =>
              obtain ⟨j, rfl, hj, rfl, hal2⟩ := hrel
              have HAL := Lib.hid hal2
              clear hal2
              by_cases hlt2 : j < n
              · have hlt3 : (j : Int) < (n : Int) := by omega
                have hjs : j < texts.length := by rw [HN.out]; exact hlt2
                obtain ⟨b0, off, rfl, hbb, hc⟩ := Strs.get HSR.out j hlt2
                obtain ⟨x, hx⟩ : ∃ x, x = texts[j] := ⟨_, rfl⟩
                rw [← hx] at hc
                have HXX := Lib.hid hx
                clear hx
                by_cases hbig : (65536 : Int) < (x.size : Int)
                · have HFL := Lib.hid (show res = mkS [] by rw [HPR.out, eRep_texts _ (by dsimp only; rw [HN.out]; omega) j hjs (by dsimp only; rw [← HXX.out]; omega)]; rfl)
                  go_wp2
                  go_ret
                  exact ⟨by rw [HFL.out]; rfl, HBR.out⟩
                · have HN3 := Lib.hid (show ∀ t, t < j + 1 → ∀ (h : t < texts.length), (texts[t]).size ≤ 65536 from fun t ht h => by
                    by_cases htj : t = j
                    · subst htj; rw [← HXX.out]; omega
                    · exact HAL.out t (by omega) h)
                  go_wp2
                  refine ⟨⟨j + 1, by go_num, by omega, by trivial, HN3.out⟩, by simp [intOf]; omega⟩
              · have hje : j = n := by omega
                subst hje
                have hallx : ∀ s ∈ texts, s.size ≤ 65536 := fun s hs => by
                  obtain ⟨t, ht, rfl⟩ := List.getElem_of_mem hs
                  exact HAL.out t (by rw [← HN.out]; exact ht) ht
                have HFN := Lib.hid (show res = mkS (qRep ⟨code, line, col, count, text, texts, marks⟩) by
                  rw [HPR.out, eRep_some _ (HALL.out 0 (by omega) (by simp)) (HALL.out 1 (by omega) (by simp)) (HALL.out 2 (by omega) (by simp)) (HALL.out 3 (by omega) (by simp)) (by dsimp only; omega) (by dsimp only; rw [HN.out]; omega) hallx (by dsimp only; rw [HM.out]; omega)]
                  rfl)
                have e1 : (qText text).length ≤ 65544 := by have := qText_len text; omega
                have e2 : (qTexts texts).length ≤ 268500000 := by
                  have h1 := qTexts_len texts 65536 hallx
                  have h2 : texts.length * (8 + 65536) ≤ 4096 * (8 + 65536) := Nat.mul_le_mul (by rw [HN.out]; omega) (Nat.le_refl _)
                  omega
                obtain ⟨y1, hy1⟩ : ∃ s, s = mkS (qText text) := ⟨_, rfl⟩
                obtain ⟨y2, hy2⟩ : ∃ s, s = mkS (qTexts texts) := ⟨_, rfl⟩
                obtain ⟨y3, hy3⟩ : ∃ s, s = mkS (pb (m : Int)) := ⟨_, rfl⟩
                have z1 : y1.size ≤ 65544 := by rw [hy1, mkS_size]; exact e1
                have z2 : y2.size ≤ 268500000 := by rw [hy2, mkS_size]; exact e2
                have z3 : y3.size ≤ 8 := by rw [hy3, mkS_size]; exact Oct.pb_len _
                have hBIG : BIG = 9223372036854775807 := rfl
                have HC1 := Lib.hid (fun w => show Calls Try.prog 36 #[.string text] w fun e w' => e = .returned (.string y1) ∧ Below w.heap.size w w' by rw [hy1]; exact rtext_any text (by omega) w)
                have HC2 := Lib.hid (fun w (hw : Strs w a j texts) => show Calls Try.prog 37 #[.slice a j cap] w fun e w' => e = .returned (.string y2) ∧ Below w.heap.size w w' by rw [hy2]; exact rtexts_any a j cap texts w hw (by omega) (by omega))
                have HC3 := Lib.hid (fun w => show Calls Try.prog 35 #[.int .i64 m] w fun e w' => e = .returned (.string y3) ∧ Below w.heap.size w w' by rw [hy3]; exact Oct.rput_any (m : Int) w)
                have a1 : ¬ 9223372036854775807 < y1.size + y2.size := by omega
                have a2 : ¬ 9223372036854775807 < y1.size + y2.size + y3.size := by omega
                have a3 : ¬ 9223372036854775807 < pre.size + (y1.size + y2.size + y3.size) := by omega
                have HSUM := Lib.hid (show pre ++ (y1 ++ y2 ++ y3) = mkS (qNums [code, line, col, count] 4 ++ (qText text ++ qTexts texts ++ pb (m : Int))) by rw [HPRE.out, hy1, hy2, hy3, mkS_add, mkS_add, mkS_add])
                have HLP := Lib.hid (show (qNums [code, line, col, count] 4 ++ (qText text ++ qTexts texts ++ pb (m : Int))).length ≤ 300000000 by
                  have h1 := qNums_len [code, line, col, count] 4
                  have h2 := Oct.pb_len (m : Int)
                  simp only [List.length_append]
                  omega)
                have HCE := Lib.hid (fun (w' : World) (b9 : Below wr.heap.size wr w') => show w'.cell? ⟨w.heap.size, 4, none⟩ = some (.string text) ∧ w'.cell? ⟨w.heap.size, 5, none⟩ = some (.slice a j cap) ∧ w'.cell? ⟨w.heap.size, 6, none⟩ = some (.slice b m cap2) by
                  have hx := (b9.block _ (Gn.heap_lt HXR.out)).trans HXR.out
                  exact ⟨cell_of_row _ _ 4 _ _ (0, 0) hx, cell_of_row _ _ 5 _ _ (0, 0) hx, cell_of_row _ _ 6 _ _ (0, 0) hx⟩)
                clear hallx e1 e2 hy1 hy2 hy3 z1 z2 z3 hBIG hprl
                go_upto_region 17 with fail
                clear x5
                refine LooseD.region_loose (fun w9 => Below wr.heap.size wr w9) _ _ (by kernel_rfl) (by kernel_rfl)
                  (LooseD.waits (D := [[], [], [], [], [], [], [], [], [], [], [], [], [], [], []]) (by kernel_rfl))
                  (LooseD.stays (ts := [none, none, none, some (.is (.string y1)), none, none, some (.is (.string y2)), none, none, none, none, some (.is (.string y3)), none, none, none]) (fun w w' h b => h.trans (b.mono h.size)) (.none (.none (.none (.is (.none (.none (.is (.none (.none (.none (.none (.is (.none (.none (.none .nil))))))))))))))))
                  (Gn.below_drew (Below.refl _ _)) ?_
                refine LooseD.reads (.string pre) rfl rfl ?_ ?_
                · intro w9 hw
                  clear hw
                  go_simp
                try simp only [Act.put, List.setIfInBounds_toArray, List.set_cons_zero, List.set_cons_succ]
                refine LooseD.reads (.pointer (some ⟨w.heap.size, 4, none⟩)) rfl rfl ?_ ?_
                · intro w9 hw
                  clear hw
                  go_simp
                try simp only [Act.put, List.setIfInBounds_toArray, List.set_cons_zero, List.set_cons_succ]
                refine LooseD.reads (.string text) rfl rfl ?_ ?_
                · intro w9 hw
                  obtain ⟨p4, p5, p6⟩ := HCE.out w9 hw
                  clear hw
                  go_simp
                try simp only [Act.put, List.setIfInBounds_toArray, List.set_cons_zero, List.set_cons_succ]
                refine LooseD.gives (.string y1) 36 #[.string text] rfl rfl ?_ (fun w9 hw hH => HC1.out w9) ?_
                · intro w9 hw
                  clear hw
                  go_simp
                try simp only [Act.put, List.setIfInBounds_toArray, List.set_cons_zero, List.set_cons_succ]
                refine LooseD.reads (.pointer (some ⟨w.heap.size, 5, none⟩)) rfl rfl ?_ ?_
                · intro w9 hw
                  clear hw
                  go_simp
                try simp only [Act.put, List.setIfInBounds_toArray, List.set_cons_zero, List.set_cons_succ]
                refine LooseD.reads (.slice a j cap) rfl rfl ?_ ?_
                · intro w9 hw
                  obtain ⟨p4, p5, p6⟩ := HCE.out w9 hw
                  clear hw
                  go_simp
                try simp only [Act.put, List.setIfInBounds_toArray, List.set_cons_zero, List.set_cons_succ]
                refine LooseD.gives (.string y2) 37 #[.slice a j cap] rfl rfl ?_ (fun w9 hw hH => HC2.out w9 (Strs.under HSR.out hw)) ?_
                · intro w9 hw
                  clear hw
                  go_simp
                try simp only [Act.put, List.setIfInBounds_toArray, List.set_cons_zero, List.set_cons_succ]
                refine LooseD.reads (.string (y1 ++ y2)) rfl rfl ?_ ?_
                · intro w9 hw
                  clear hw
                  go_simp
                try simp only [Act.put, List.setIfInBounds_toArray, List.set_cons_zero, List.set_cons_succ]
                refine LooseD.reads (.pointer (some ⟨w.heap.size, 6, none⟩)) rfl rfl ?_ ?_
                · intro w9 hw
                  clear hw
                  go_simp
                try simp only [Act.put, List.setIfInBounds_toArray, List.set_cons_zero, List.set_cons_succ]
                refine LooseD.reads (.slice b m cap2) rfl rfl ?_ ?_
                · intro w9 hw
                  obtain ⟨p4, p5, p6⟩ := HCE.out w9 hw
                  clear hw
                  go_simp
                try simp only [Act.put, List.setIfInBounds_toArray, List.set_cons_zero, List.set_cons_succ]
                refine LooseD.reads (.int .i64 m) rfl rfl ?_ ?_
                · intro w9 hw
                  clear hw
                  go_simp
                try simp only [Act.put, List.setIfInBounds_toArray, List.set_cons_zero, List.set_cons_succ]
                refine LooseD.gives (.string y3) 35 #[.int .i64 m] rfl rfl ?_ (fun w9 hw hH => HC3.out w9) ?_
                · intro w9 hw
                  clear hw
                  go_simp
                try simp only [Act.put, List.setIfInBounds_toArray, List.set_cons_zero, List.set_cons_succ]
                refine LooseD.reads (.string (y1 ++ y2 ++ y3)) rfl rfl ?_ ?_
                · intro w9 hw
                  clear hw
                  go_simp
                try simp only [Act.put, List.setIfInBounds_toArray, List.set_cons_zero, List.set_cons_succ]
                refine LooseD.reads (.string (pre ++ (y1 ++ y2 ++ y3))) rfl rfl ?_ ?_
                · intro w9 hw
                  clear hw
                  go_simp
                try simp only [Act.put, List.setIfInBounds_toArray, List.set_cons_zero, List.set_cons_succ]
                refine LooseD.reads (.string (pre ++ (y1 ++ y2 ++ y3))) rfl rfl ?_ ?_
                · intro w9 hw
                  clear hw
                  go_simp
                try simp only [Act.put, List.setIfInBounds_toArray, List.set_cons_zero, List.set_cons_succ]
                refine LooseD.done ?_
                intro w5 hw5 _
                rw [HSUM.out]
                obtain ⟨P0, hP0⟩ : ∃ l, l = qNums [code, line, col, count] 4 ++ (qText text ++ qTexts texts ++ pb (m : Int)) := ⟨_, rfl⟩
                rw [← hP0] at HLP ⊢
                have HP0 := Lib.hid hP0
                have HB5 := Lib.hid (HBR.out.trans (hw5.mono HBR.out.size))
                have HX5 := Lib.hid ((hw5.block _ (Gn.heap_lt HXR.out)).trans HXR.out)
                have HF5 := Lib.hid (Flts.under HFR.out hw5)
                clear hw5 a1 a2 a3 hP0
                go_wp2_with fail
                go_loopw [4, 8] (fun s i W => ∃ k : Nat, k ≤ m ∧ i = .int .i64 k ∧ s = .string (mkS (P0 ++ qMarks (marks.take k))) ∧ Below w5.heap.size w5 W) (fun _ i _ => m - (intOf i).toNat)
                case atStart => exact ⟨0, Nat.zero_le _, rfl, by simp [qMarks, qStrs], Below.refl _ _⟩
                case round =>
                  obtain ⟨k, hk, rfl, rfl, hbk⟩ := hrel
                  have HBK := Lib.hid hbk
                  clear hbk
                  obtain ⟨acc, hacc⟩ : ∃ x, x = mkS (P0 ++ qMarks (marks.take k)) := ⟨_, rfl⟩
                  rw [← hacc]
                  have hal : acc.size ≤ 310000000 := by
                    have h1 := qMarks_len (marks.take k)
                    have h2 := HLP.out
                    have h3 : (marks.take k).length ≤ m := by rw [List.length_take, HM.out]; omega
                    have h4 : (marks.take k).length * 16 ≤ 4096 * 16 := Nat.mul_le_mul (by omega) (Nat.le_refl _)
                    rw [hacc, mkS_size, List.length_append]
                    omega
                  have HACC := Lib.hid hacc
                  clear hacc
                  have hx6 := (HBK.out.block _ (Gn.heap_lt HX5.out)).trans HX5.out
                  have x6 := cell_of_row _ _ 6 _ _ (0, 0) hx6
                  clear hx6
                  by_cases hlt6 : k < m
                  · have hlt7 : (k : Int) < (m : Int) := by omega
                    have hks : k < marks.length := by rw [HM.out]; exact hlt6
                    obtain ⟨b0, off, rfl, hbb, hc⟩ := Flts.get (Flts.under HF5.out HBK.out) k hlt6
                    obtain ⟨f, hf⟩ : ∃ x, x = marks[k] := ⟨_, rfl⟩
                    rw [← hf] at hc
                    have HP8 := Lib.hid (rput8 f (by rw [hf]; exact HLOW.out _ (List.getElem_mem _)))
                    have HT8 := Lib.hid (fun w => rtext_any (mk8 f) (by have h1 := qText_len (mk8 f); rw [mk8_size] at h1; exact Nat.le_trans h1 (by decide)) w)
                    obtain ⟨t8, ht8⟩ : ∃ t, t = mk8 f := ⟨_, rfl⟩
                    obtain ⟨q8, hq8⟩ : ∃ t, t = mkS (qText (mk8 f)) := ⟨_, rfl⟩
                    rw [← hq8, ← ht8] at HT8
                    rw [← ht8] at HP8
                    have hqs : q8.size ≤ 16 := by have h1 := qText_len (mk8 f); rw [mk8_size] at h1; rw [hq8, mkS_size]; exact h1
                    have hadd : ¬ 9223372036854775807 < acc.size + q8.size := by omega
                    have HNX := Lib.hid (show acc ++ q8 = mkS (P0 ++ qMarks (marks.take (k + 1))) by rw [HACC.out, hq8, mkS_add, qMarks_take _ _ hks, ← hf, List.append_assoc])
                    clear hf ht8 hq8 hqs
                    go_wp2_with fail
                    refine (HP8.out _).mono ?_
                    rintro e v8 ⟨rfl, b8⟩
                    have HB8 := Lib.hid (HBK.out.trans (b8.mono HBK.out.size))
                    clear b8
                    go_wp2_with fail
                    refine (HT8.out _).mono ?_
                    rintro e v9 ⟨rfl, b9⟩
                    have HB9 := Lib.hid (HB8.out.trans (b9.mono HB8.out.size))
                    clear b9
                    go_wp2_with fail
                    refine ⟨⟨k + 1, by omega, by go_num, by rw [← HNX.out], HB9.out⟩, by simp [intOf]; omega⟩
                  · have hke : k = m := by omega
                    subst hke
                    have HE := Lib.hid (show acc = res by
                      rw [HACC.out, HFN.out, List.take_of_length_le (by rw [HM.out]; exact Nat.le_refl _), HP0.out]
                      unfold qRep
                      dsimp only
                      rw [HM.out])
                    go_wp2_with fail
                    go_ret
                    exact ⟨by rw [← HE.out]; rfl, HB5.out.trans (HBK.out.mono HB5.out.size)⟩
end Go.Proofs.Ytbkfbejbloclgaa.Cm
