/-
  Layer 21: the walk of CommandAnswers.
-/
import Derived.Test.YtpkjcaeijlgclaaCmR5
namespace Go.Proofs.Ytpkjcaeijlgclaa.Cm
open Go.RowKit
open Oct (pb bs Strs rInt rText rTexts rErr rEnd At Sep Gives strV OutSt OSep app eInt eText eTexts eLen rng)
open Lx (goodB)
open Gn (Asks)
open Mk (gm canon)
set_option maxRecDepth 100000
set_option linter.unusedSimpArgs false
set_option linter.unusedVariables false

theorem mk8_of (z : List UInt8) (h : mkB z = true) : mk8 (gm z).1 = mkS z := by
  have h := of_decide_eq_true h
  unfold mk8 mkS
  unfold gm at h ⊢
  split
  · rename_i h1; rw [if_pos h1] at h; exact absurd h (by decide)
  · rename_i h1
    rw [if_neg h1] at h
    split
    · rename_i h2; rw [if_pos h2] at h; exact absurd h (by decide)
    · rename_i h2
      rw [if_neg h2] at h
      split
      · rename_i h3; exact congrArg (fun l : List UInt8 => (⟨l.toArray⟩ : ByteArray)) h3
      · rename_i h3; rw [if_neg h3] at h; exact absurd h (by decide)
theorem mks_of (zs : List (List UInt8)) (h : mksB zs = true) : (mksOf zs).map mk8 = zs.map mkS := by
  unfold mksOf
  rw [List.map_map]
  exact List.map_congr_left fun z hz => mk8_of z (List.all_eq_true.1 h z hz)
theorem eTexts_back (zs : List (List UInt8)) (hl : zs.length ≤ 65536) (h : ∀ z ∈ zs, eText z = some (Oct.qT z)) : eTexts (zs.map mkS) = some (pb zs.length ++ (zs.map Oct.qT).flatten) := by
  have h2 := Oct.eTexts_all (zs.map mkS) (by rw [List.length_map]; exact hl) (fun x hx => by
    obtain ⟨z, hz, rfl⟩ := List.mem_map.1 hx
    rw [show Oct.bs (mkS z) = z from bs_mkS z]
    exact h z hz)
  rw [h2, List.length_map, List.map_map]
  have : (fun x => Oct.qT (bs x)) ∘ mkS = Oct.qT := by
    funext z
    show Oct.qT (bs (mkS z)) = _
    rw [bs_mkS]
  rw [this]
theorem putR_get (l : List UInt8) (r : Rep) (h : getR l = (r, 0)) : putR r = l := by
  unfold getR at h
  obtain ⟨q, hq⟩ : ∃ q, q = readR (.ok l) := ⟨_, rfl⟩
  rw [← hq] at h
  by_cases he : q.err = 0
  · rw [if_pos he] at h
    have hr : q.rep = r := congrArg Prod.fst h
    rw [← hr]
    clear h hr
    unfold readR at hq
    obtain ⟨k0, r1, e0⟩ : ∃ k r, rInt (.ok l) = (k, r) := ⟨_, _, rfl⟩
    obtain ⟨k1, r2, e1⟩ : ∃ k r, rInt r1 = (k, r) := ⟨_, _, rfl⟩
    obtain ⟨k2, r3, e2⟩ : ∃ k r, rInt r2 = (k, r) := ⟨_, _, rfl⟩
    obtain ⟨k3, r4, e3⟩ : ∃ k r, rInt r3 = (k, r) := ⟨_, _, rfl⟩
    obtain ⟨tx, r5, e4⟩ : ∃ k r, rText r4 = (k, r) := ⟨_, _, rfl⟩
    obtain ⟨ts, r6, e5⟩ : ∃ k r, rTexts 4096 r5 = (k, r) := ⟨_, _, rfl⟩
    obtain ⟨zs, rz, e6⟩ : ∃ k r, rTexts 4096 r6 = (k, r) := ⟨_, _, rfl⟩
    have hnz : Oct.NZ rz := by
      have h0 : Oct.NZ (.ok l) := fun h => by cases h
      have := Oct.rTexts_nz 4096 (Oct.rTexts_nz 4096 (Oct.rText_nz (Oct.rInt_nz (Oct.rInt_nz (Oct.rInt_nz (Oct.rInt_nz h0))))))
      rw [e0] at this
      dsimp only at this
      rw [e1] at this
      dsimp only at this
      rw [e2] at this
      dsimp only at this
      rw [e3] at this
      dsimp only at this
      rw [e4] at this
      dsimp only at this
      rw [e5] at this
      dsimp only at this
      rw [e6] at this
      exact this
    rw [e0] at hq
    dsimp only at hq
    rw [e1] at hq
    dsimp only at hq
    rw [e2] at hq
    dsimp only at hq
    rw [e3] at hq
    dsimp only at hq
    rw [e4] at hq
    dsimp only at hq
    rw [e5] at hq
    dsimp only at hq
    rw [e6] at hq
    dsimp only at hq
    subst hq
    unfold Q7.err at he
    dsimp only at he
    cases rz with
    | error e =>
      have he : e = 0 := he
      exact absurd (by rw [he]) hnz
    | ok k =>
      cases hb : (mksB zs && codeB k0) with
      | false => rw [hb] at he; have he : (2 : Nat) = 0 := he; cases he
      | true =>
        rw [hb] at he
        cases k with
        | cons x k => have he : (4 : Nat) = 0 := he; cases he
        | nil =>
          have hmb : mksB zs = true := (Bool.and_eq_true _ _ ▸ hb).1
          obtain ⟨x6, rfl⟩ := Oct.rTexts_ok e6
          obtain ⟨x5, rfl⟩ := Oct.rTexts_ok e5
          obtain ⟨x4, rfl⟩ := Oct.rText_ok e4
          obtain ⟨x3, rfl⟩ := Oct.rInt_ok e3
          obtain ⟨x2, rfl⟩ := Oct.rInt_ok e2
          obtain ⟨x1, rfl⟩ := Oct.rInt_ok e1
          obtain ⟨a0, b0⟩ := Oct.rInt_back e0
          obtain ⟨a1, b1⟩ := Oct.rInt_back e1
          obtain ⟨a2, b2⟩ := Oct.rInt_back e2
          obtain ⟨a3, b3⟩ := Oct.rInt_back e3
          obtain ⟨a4, b4⟩ := Oct.rText_back e4
          obtain ⟨b5, d5, a5⟩ := Oct.rTexts_back (by decide) e5
          obtain ⟨b6, d6, a6⟩ := Oct.rTexts_back (by decide) e6
          have c5 := eTexts_back ts (by omega) a5
          have c6 := eTexts_back zs (by omega) a6
          unfold putR Q7.rep
          dsimp only
          rw [if_neg (by rw [List.length_map]; unfold mksOf; rw [List.length_map]; omega)]
          unfold eRep
          dsimp only
          rw [a0, a1, a2, a3, bs_mkS, a4, c5, mks_of zs hmb, c6, b0, b1, b2, b3, b4, b5, b6]
          simp [app]
  · rw [if_neg he] at h
    exact absurd (congrArg Prod.snd h) he
set_option maxHeartbeats 8000000 in
theorem answers_walk (s : ByteArray) (hs : s.size ≤ 9223372036854775807) (W : World) :
    Calls Try.prog 6 #[.string s] W fun e w' => e = .returned (.bool true) ∧ Below W.heap.size W w' := by
  by_cases hl : (3000 : Int) < (s.size : Int)
  · go_enter Try.func6, Try.ntmps6
    go_wp2_with fail
    refine (speaks_any _).mono ?_
    rintro e w1 ⟨rfl, b1⟩
    go_wp2
    go_ret
    exact ⟨rfl, b1⟩
  · have hl' : ¬ (3000 : Int) < (s.size : Int) := hl
    obtain ⟨c, ec, hgc⟩ : ∃ c ec, getR (bs s) = (c, ec) := ⟨_, _, rfl⟩
    have HG := Lib.hid (fun (w : World) => show Calls Try.prog 22 #[.string s] w (RepOut w (c, ec)) by rw [← hgc]; exact getr_any s hs w)
    have HR := Lib.hid (fun (w : World) => show Calls Try.prog 23 #[.string s] w (RepOut w (c, ec)) by rw [← hgc]; exact rgetr_any s hs w)
    have HF := Lib.hid (show FitsR c by have := getR_fits (bs s); rw [hgc] at this; exact this)
    have HSM := Lib.hid (fun (w : World) (v u : Value) (hv : RepAt w c v) (hu : RepAt w c u) => show Calls Try.prog 21 #[v, u] w (Asks true w) by
      have := alike_any c c v u w hv hu HF.out HF.out
      rw [alikeR_self] at this
      exact this)
    have HP := Lib.hid (show ec = 0 → putR c = bs s from fun h0 => by
      subst h0
      exact putR_get _ _ hgc)
    clear hgc hl
    go_enter Try.func6, Try.ntmps6
    go_wp2_with fail
    refine (speaks_any _).mono ?_
    rintro e w1 ⟨rfl, b1⟩
    have HB1 := Lib.hid b1
    clear b1
    go_wp2_with fail
    refine (HG.out _).mono ?_
    rintro e w2 ⟨v, rfl, hv, b2⟩
    obtain ⟨a, cap, b, cap2, rfl, hs2, hf2⟩ := hv
    obtain ⟨code, line, col, count, text, texts, marks⟩ := c
    dsimp only at *
    obtain ⟨n, hn⟩ : ∃ n, n = texts.length := ⟨_, rfl⟩
    obtain ⟨m, hm⟩ : ∃ n, n = marks.length := ⟨_, rfl⟩
    rw [← hn] at hs2 ⊢
    rw [← hm] at hf2 ⊢
    obtain ⟨V, hV⟩ : ∃ V, V = w2.alloc (.cells #[.int .i64 code, .int .i64 line, .int .i64 col, .int .i64 count, .string text, .slice a n cap, .slice b m cap2] 46) := ⟨_, rfl⟩
    have hbV : Below w2.heap.size w2 V := by rw [hV]; exact (Below.refl _ _).alloc (Nat.le_refl _) _
    have hxV : V.heap[w2.heap.size]? = some (.cells #[.int .i64 code, .int .i64 line, .int .i64 col, .int .i64 count, .string text, .slice a n cap, .slice b m cap2] 46 (0, 0)) := by rw [hV]; exact heap_alloc_new _ _
    obtain ⟨g, hg⟩ : ∃ g, g = w2.heap.size := ⟨_, rfl⟩
    rw [← hg] at hxV
    have HSV := Lib.hid (Strs.under hs2 hbV)
    have HFV := Lib.hid (Flts.under hf2 hbV)
    have HBV := Lib.hid ((HB1.out.trans (b2.mono HB1.out.size)).trans (hbV.mono (by have := HB1.out.size; have := b2.size; omega)))
    have HXV := Lib.hid hxV
    have HV := Lib.hid hV
    have HGG := Lib.hid hg
    have HN := Lib.hid hn
    have HM := Lib.hid hm
    clear hs2 hf2 b2 hV hbV hxV hg hn hm
    go_upto_region 6 with fail
    rw [← HV.out, ← HGG.out]
    go_wp2_with fail
    refine (HR.out _).mono ?_
    rintro e w3 ⟨u, rfl, hu, b3⟩
    obtain ⟨a', cap', b', cap2', rfl, hs3, hf3⟩ := hu
    dsimp only at *
    rw [← HN.out] at hs3 ⊢
    rw [← HM.out] at hf3 ⊢
    obtain ⟨U, hU⟩ : ∃ U, U = w3.alloc (.cells #[.int .i64 code, .int .i64 line, .int .i64 col, .int .i64 count, .string text, .slice a' n cap', .slice b' m cap2'] 48) := ⟨_, rfl⟩
    have hbU : Below w3.heap.size w3 U := by rw [hU]; exact (Below.refl _ _).alloc (Nat.le_refl _) _
    have hxU : U.heap[w3.heap.size]? = some (.cells #[.int .i64 code, .int .i64 line, .int .i64 col, .int .i64 count, .string text, .slice a' n cap', .slice b' m cap2'] 48 (0, 0)) := by rw [hU]; exact heap_alloc_new _ _
    obtain ⟨h9, hh⟩ : ∃ g, g = w3.heap.size := ⟨_, rfl⟩
    rw [← hh] at hxU
    have HB3 := Lib.hid (b3.trans (hbU.mono b3.size))
    have HSU := Lib.hid (Strs.under hs3 hbU)
    have HFU := Lib.hid (Flts.under hf3 hbU)
    have HXU := Lib.hid hxU
    have HX1 := Lib.hid ((HB3.out.block _ (Gn.heap_lt HXV.out)).trans HXV.out)
    have HS1 := Lib.hid (Strs.under HSV.out HB3.out)
    have HF1 := Lib.hid (Flts.under HFV.out HB3.out)
    have HBU := Lib.hid (HBV.out.trans (HB3.out.mono HBV.out.size))
    have HU := Lib.hid hU
    have HHH := Lib.hid hh
    clear hs3 hf3 b3 hU hbU hxU hh
    go_upto_region 7 with fail
    rw [← HU.out, ← HHH.out]
    have x0 := cell_of_row _ _ 0 _ _ (0, 0) HX1.out
    have x1 := cell_of_row _ _ 1 _ _ (0, 0) HX1.out
    have x2 := cell_of_row _ _ 2 _ _ (0, 0) HX1.out
    have x3 := cell_of_row _ _ 3 _ _ (0, 0) HX1.out
    have x4 := cell_of_row _ _ 4 _ _ (0, 0) HX1.out
    have x5 := cell_of_row _ _ 5 _ _ (0, 0) HX1.out
    have x6 := cell_of_row _ _ 6 _ _ (0, 0) HX1.out
    have y0 := cell_of_row _ _ 0 _ _ (0, 0) HXU.out
    have y1 := cell_of_row _ _ 1 _ _ (0, 0) HXU.out
    have y2 := cell_of_row _ _ 2 _ _ (0, 0) HXU.out
    have y3 := cell_of_row _ _ 3 _ _ (0, 0) HXU.out
    have y4 := cell_of_row _ _ 4 _ _ (0, 0) HXU.out
    have y5 := cell_of_row _ _ 5 _ _ (0, 0) HXU.out
    have y6 := cell_of_row _ _ 6 _ _ (0, 0) HXU.out
    have hcc : ((ec : Int) == (ec : Int)) = true := by rw [beq_iff_eq]
    go_wp2_with fail
    refine (HSM.out _ _ _ ⟨a, cap, b, cap2, by rw [← HN.out, ← HM.out], by rw [← HN.out]; exact HS1.out, by rw [← HM.out]; exact HF1.out⟩ ⟨a', cap', b', cap2', by rw [← HN.out, ← HM.out], by rw [← HN.out]; exact HSU.out, by rw [← HM.out]; exact HFU.out⟩).mono ?_
    rintro e w4 ⟨rfl, b4⟩
    have HB4 := Lib.hid (HBU.out.trans (b4.mono HBU.out.size))
    have HX4 := Lib.hid ((b4.block _ (Gn.heap_lt HX1.out)).trans HX1.out)
    have HS4 := Lib.hid (Strs.under HS1.out b4)
    have HF4 := Lib.hid (Flts.under HF1.out b4)
    clear x0 x1 x2 x3 x4 x5 x6 y0 y1 y2 y3 y4 y5 y6 b4
    by_cases hz : ec = 0
    · subst hz
      have HPT := Lib.hid (fun (w : World) (h : Strs w a n texts) (h2 : Flts w b m marks) => show Calls Try.prog 18 #[.agg #[.int .i64 code, .int .i64 line, .int .i64 col, .int .i64 count, .string text, .slice a n cap, .slice b m cap2]] w fun e w' => e = .returned (.string s) ∧ Below w.heap.size w w' by
        have := putr_any code line col count text texts marks a b n cap m cap2 w HN.out.symm HM.out.symm h h2 HF.out.low (by have := HF.out.texts; have h2 := HN.out; dsimp only at this; omega) (by have := HF.out.marks; have h2 := HM.out; dsimp only at this; omega)
        rw [HP.out rfl, mkS_bs] at this
        exact this)
      have x0 := cell_of_row _ _ 0 _ _ (0, 0) HX4.out
      have x1 := cell_of_row _ _ 1 _ _ (0, 0) HX4.out
      have x2 := cell_of_row _ _ 2 _ _ (0, 0) HX4.out
      have x3 := cell_of_row _ _ 3 _ _ (0, 0) HX4.out
      have x4 := cell_of_row _ _ 4 _ _ (0, 0) HX4.out
      have x5 := cell_of_row _ _ 5 _ _ (0, 0) HX4.out
      have x6 := cell_of_row _ _ 6 _ _ (0, 0) HX4.out
      go_wp2_with fail
      refine (HPT.out _ HS4.out HF4.out).mono ?_
      rintro e w5 ⟨rfl, b5⟩
      have HB5 := Lib.hid (HB4.out.trans (b5.mono HB4.out.size))
      clear b5
      go_wp2
      go_ret
      exact ⟨rfl, HB5.out⟩
    · have hz1 : ((ec : Int) != 0) = true := by rw [bne_iff_ne]; omega
      clear hz
      go_wp2
      go_ret
      exact ⟨rfl, HB4.out⟩
end Go.Proofs.Ytpkjcaeijlgclaa.Cm
