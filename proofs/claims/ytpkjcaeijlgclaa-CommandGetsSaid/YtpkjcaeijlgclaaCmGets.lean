/-
  Layer 21: the walk of CommandGets.
-/
import Derived.Test.YtpkjcaeijlgclaaCmL
import Derived.Test.YtpkjcaeijlgclaaCmF
import Derived.Test.YtpkjcaeijlgclaaCmI
namespace Go.Proofs.Ytpkjcaeijlgclaa.Cm
open Go.RowKit
open Oct (pb bs Strs)
open Lx (goodB)
open Gn (Asks)
set_option maxRecDepth 100000
set_option linter.unusedSimpArgs false
set_option linter.unusedVariables false
set_option maxHeartbeats 8000000 in
theorem gets_walk (s : ByteArray) (hs : s.size ≤ 9223372036854775807) (W : World) :
    Calls Try.prog 4 #[.string s] W fun e w' => e = .returned (.bool true) ∧ Below W.heap.size W w' := by
  by_cases hl : (3000 : Int) < (s.size : Int)
  · go_enter Try.func4, Try.ntmps4
    go_wp2_with fail
    refine (speaks_any _).mono ?_
    rintro e w1 ⟨rfl, b1⟩
    go_wp2
    go_ret
    exact ⟨rfl, b1⟩
  · have hl' : ¬ (3000 : Int) < (s.size : Int) := hl
    obtain ⟨c, ec, hgc⟩ : ∃ c ec, getC (bs s) = (c, ec) := ⟨_, _, rfl⟩
    have HG := Lib.hid (fun (w : World) => show Calls Try.prog 14 #[.string s] w (GetOut w (c, ec)) by rw [← hgc]; exact get_any s hs w)
    have HR := Lib.hid (fun (w : World) => show Calls Try.prog 16 #[.string s] w (GetOut w (c, ec)) by rw [← hgc]; exact rget_any s hs w)
    have HF := Lib.hid (show Fits c by have := getC_fits (bs s); rw [hgc] at this; exact this)
    have HSM := Lib.hid (fun (w : World) (v u : Value) (hv : CmdAt w c v) (hu : CmdAt w c u) => show Calls Try.prog 15 #[v, u] w (Asks true w) by
      have := same_any c c v u w hv hu (by have := HF.out.word; omega)
      rw [(sameC_iff c c).2 rfl] at this
      exact this)
    have HP := Lib.hid (show ec = 0 → putC c = bs s from fun h0 => by
      subst h0
      obtain ⟨h1, h2⟩ := put_get _ _ hgc
      unfold putC
      rw [if_pos h1, h2])
    clear hgc hl
    go_enter Try.func4, Try.ntmps4
    go_wp2_with fail
    refine (speaks_any _).mono ?_
    rintro e w1 ⟨rfl, b1⟩
    have HB1 := Lib.hid b1
    clear b1
    go_wp2_with fail
    refine (HG.out _).mono ?_
    rintro e w2 ⟨v, rfl, hv, b2⟩
    obtain ⟨a, cap, rfl, hs2⟩ := hv
    obtain ⟨kind, who, nm, oth, txt, word, n0, n1, n2, n3⟩ := c
    dsimp only at *
    obtain ⟨n, hn⟩ : ∃ n, n = word.length := ⟨_, rfl⟩
    rw [← hn] at hs2 ⊢
    obtain ⟨V, hV⟩ : ∃ V, V = w2.alloc (.cells #[.int .i64 kind, .string who, .string nm, .string oth, .string txt, .slice a n cap, .int .i64 n0, .int .i64 n1, .int .i64 n2, .int .i64 n3] 28) := ⟨_, rfl⟩
    have hbV : Below w2.heap.size w2 V := by rw [hV]; exact (Below.refl _ _).alloc (Nat.le_refl _) _
    have hxV : V.heap[w2.heap.size]? = some (.cells #[.int .i64 kind, .string who, .string nm, .string oth, .string txt, .slice a n cap, .int .i64 n0, .int .i64 n1, .int .i64 n2, .int .i64 n3] 28 (0, 0)) := by rw [hV]; exact heap_alloc_new _ _
    obtain ⟨g, hg⟩ : ∃ g, g = w2.heap.size := ⟨_, rfl⟩
    rw [← hg] at hxV
    have HSV := Lib.hid (Strs.under hs2 hbV)
    have HBV := Lib.hid ((HB1.out.trans (b2.mono HB1.out.size)).trans (hbV.mono (by have := HB1.out.size; have := b2.size; omega)))
    have HXV := Lib.hid hxV
    have HV := Lib.hid hV
    have HGG := Lib.hid hg
    have HN := Lib.hid hn
    clear hs2 b2 hV hbV hxV hg hn
    go_upto_region 6 with fail
    rw [← HV.out, ← HGG.out]
    go_wp2_with fail
    refine (HR.out _).mono ?_
    rintro e w3 ⟨u, rfl, hu, b3⟩
    obtain ⟨b, cap', rfl, hs3⟩ := hu
    dsimp only at *
    rw [← HN.out] at hs3 ⊢
    obtain ⟨U, hU⟩ : ∃ U, U = w3.alloc (.cells #[.int .i64 kind, .string who, .string nm, .string oth, .string txt, .slice b n cap', .int .i64 n0, .int .i64 n1, .int .i64 n2, .int .i64 n3] 29) := ⟨_, rfl⟩
    have hbU : Below w3.heap.size w3 U := by rw [hU]; exact (Below.refl _ _).alloc (Nat.le_refl _) _
    have hxU : U.heap[w3.heap.size]? = some (.cells #[.int .i64 kind, .string who, .string nm, .string oth, .string txt, .slice b n cap', .int .i64 n0, .int .i64 n1, .int .i64 n2, .int .i64 n3] 29 (0, 0)) := by rw [hU]; exact heap_alloc_new _ _
    obtain ⟨h9, hh⟩ : ∃ g, g = w3.heap.size := ⟨_, rfl⟩
    rw [← hh] at hxU
    have HB3 := Lib.hid (b3.trans (hbU.mono b3.size))
    have HSU := Lib.hid (Strs.under hs3 hbU)
    have HXU := Lib.hid hxU
    have HX1 := Lib.hid ((HB3.out.block _ (Gn.heap_lt HXV.out)).trans HXV.out)
    have HS1 := Lib.hid (Strs.under HSV.out HB3.out)
    have HBU := Lib.hid (HBV.out.trans (HB3.out.mono HBV.out.size))
    have HU := Lib.hid hU
    have HHH := Lib.hid hh
    clear hs3 b3 hU hbU hxU hh
    go_upto_region 7 with fail
    rw [← HU.out, ← HHH.out]
    have x0 := cell_of_row _ _ 0 _ _ (0, 0) HX1.out
    have x1 := cell_of_row _ _ 1 _ _ (0, 0) HX1.out
    have x2 := cell_of_row _ _ 2 _ _ (0, 0) HX1.out
    have x3 := cell_of_row _ _ 3 _ _ (0, 0) HX1.out
    have x4 := cell_of_row _ _ 4 _ _ (0, 0) HX1.out
    have x5 := cell_of_row _ _ 5 _ _ (0, 0) HX1.out
    have x6 := cell_of_row _ _ 6 _ _ (0, 0) HX1.out
    have x7 := cell_of_row _ _ 7 _ _ (0, 0) HX1.out
    have x8 := cell_of_row _ _ 8 _ _ (0, 0) HX1.out
    have x9 := cell_of_row _ _ 9 _ _ (0, 0) HX1.out
    have y0 := cell_of_row _ _ 0 _ _ (0, 0) HXU.out
    have y1 := cell_of_row _ _ 1 _ _ (0, 0) HXU.out
    have y2 := cell_of_row _ _ 2 _ _ (0, 0) HXU.out
    have y3 := cell_of_row _ _ 3 _ _ (0, 0) HXU.out
    have y4 := cell_of_row _ _ 4 _ _ (0, 0) HXU.out
    have y5 := cell_of_row _ _ 5 _ _ (0, 0) HXU.out
    have y6 := cell_of_row _ _ 6 _ _ (0, 0) HXU.out
    have y7 := cell_of_row _ _ 7 _ _ (0, 0) HXU.out
    have y8 := cell_of_row _ _ 8 _ _ (0, 0) HXU.out
    have y9 := cell_of_row _ _ 9 _ _ (0, 0) HXU.out
    have hcc : ((ec : Int) == (ec : Int)) = true := by rw [beq_iff_eq]
    go_wp2_with fail
    refine (HSM.out _ _ _ ⟨a, cap, by rw [← HN.out], by rw [← HN.out]; exact HS1.out⟩ ⟨b, cap', by rw [← HN.out], by rw [← HN.out]; exact HSU.out⟩).mono ?_
    rintro e w4 ⟨rfl, b4⟩
    have HB4 := Lib.hid (HBU.out.trans (b4.mono HBU.out.size))
    have HX4 := Lib.hid ((b4.block _ (Gn.heap_lt HX1.out)).trans HX1.out)
    have HS4 := Lib.hid (Strs.under HS1.out b4)
    clear x0 x1 x2 x3 x4 x5 x6 x7 x8 x9 y0 y1 y2 y3 y4 y5 y6 y7 y8 y9 b4
    by_cases hz : ec = 0
    · subst hz
      have HPT := Lib.hid (fun (w : World) (h : Strs w a n word) => show Calls Try.prog 10 #[.agg #[.int .i64 kind, .string who, .string nm, .string oth, .string txt, .slice a n cap, .int .i64 n0, .int .i64 n1, .int .i64 n2, .int .i64 n3]] w fun e w' => e = .returned (.string s) ∧ Below w.heap.size w w' by
        have := put_any kind who nm oth txt word n0 n1 n2 n3 a n cap w HN.out.symm h HF.out.who HF.out.nm HF.out.oth HF.out.txt (by have := HF.out.word; have h2 := HN.out; dsimp only at this; omega)
        rw [HP.out rfl, mkS_bs] at this
        exact this)
      have x0 := cell_of_row _ _ 0 _ _ (0, 0) HX4.out
      have x1 := cell_of_row _ _ 1 _ _ (0, 0) HX4.out
      have x2 := cell_of_row _ _ 2 _ _ (0, 0) HX4.out
      have x3 := cell_of_row _ _ 3 _ _ (0, 0) HX4.out
      have x4 := cell_of_row _ _ 4 _ _ (0, 0) HX4.out
      have x5 := cell_of_row _ _ 5 _ _ (0, 0) HX4.out
      have x6 := cell_of_row _ _ 6 _ _ (0, 0) HX4.out
      have x7 := cell_of_row _ _ 7 _ _ (0, 0) HX4.out
      have x8 := cell_of_row _ _ 8 _ _ (0, 0) HX4.out
      have x9 := cell_of_row _ _ 9 _ _ (0, 0) HX4.out
      go_wp2_with fail
      refine (HPT.out _ HS4.out).mono ?_
      rintro e w5 ⟨rfl, b5⟩
      have HB5 := Lib.hid (HB4.out.trans (b5.mono HB4.out.size))
      clear b5
      go_wp2
      go_ret
      exact ⟨rfl, HB5.out⟩
    · have hz1 : ((ec : Int) != 0) = true := by rw [bne_iff_ne]; omega
      clear hz
      go_wp2
      go_ret
      exact ⟨rfl, HB4.out⟩
end Go.Proofs.Ytpkjcaeijlgclaa.Cm
