/-
  The walk of Parse.
-/
import Derived.Test.YtakihbjfkpebcaaSxParse
namespace Go.Proofs.Ytakihbjfkpebcaa.Sx
open Go.RowKit
open Lx (Tk Toks bs fltV)
set_option maxRecDepth 100000

theorem two_new (W : World) : Below W.heap.size W ((W.alloc (.cells #[.string ⟨#[]⟩, .slice none 0 0] 25)).alloc (.cells #[.int .i64 0, .int .i64 0, .int .i64 0] 67)) ∧
    ((W.alloc (.cells #[.string ⟨#[]⟩, .slice none 0 0] 25)).alloc (.cells #[.int .i64 0, .int .i64 0, .int .i64 0] 67)).heap.size = W.heap.size + 2 ∧
    ((W.alloc (.cells #[.string ⟨#[]⟩, .slice none 0 0] 25)).alloc (.cells #[.int .i64 0, .int .i64 0, .int .i64 0] 67)).heap[W.heap.size]? = some (.cells #[.string ⟨#[]⟩, .slice none 0 0] 25 (0, 0)) ∧
    ((W.alloc (.cells #[.string ⟨#[]⟩, .slice none 0 0] 25)).alloc (.cells #[.int .i64 0, .int .i64 0, .int .i64 0] 67)).heap[W.heap.size + 1]? = some (.cells #[.int .i64 0, .int .i64 0, .int .i64 0] 67 (0, 0)) := by
  refine ⟨((Below.refl _ _).alloc (Nat.le_refl _) _).alloc (by simp) _, by simp, (heap_alloc_old _ _ (by simp)).trans (heap_alloc_new W _), ?_⟩
  have := heap_alloc_new (W.alloc (.cells #[.string ⟨#[]⟩, .slice none 0 0] 25)) (.cells #[.int .i64 0, .int .i64 0, .int .i64 0] 67)
  rw [heap_size_alloc'] at this
  exact this
/-- The two results' blocks as they are at the beginning. -/
structure TwoAt (W0 W : World) : Prop where
  g : W.heap[W0.heap.size]? = some (.cells #[.string ⟨#[]⟩, .slice none 0 0] 25 (0, 0))
  k : W.heap[W0.heap.size + 1]? = some (.cells #[.int .i64 0, .int .i64 0, .int .i64 0] 67 (0, 0))
  bel : Below W0.heap.size W0 W
  size : W0.heap.size + 2 ≤ W.heap.size
theorem TwoAt.below {W0 W W' : World} (h : TwoAt W0 W) (b : Below W.heap.size W W') : TwoAt W0 W' :=
  ⟨(b.block _ (by have := h.size; omega)).trans h.g, (b.block _ (by have := h.size; omega)).trans h.k, h.bel.trans (b.mono h.bel.size), Nat.le_trans h.size b.size⟩
theorem TwoAt.facts {W0 W : World} (h : TwoAt W0 W) : W.cell? ⟨W0.heap.size, 0, none⟩ = some (.string ⟨#[]⟩) ∧ W.cell? ⟨W0.heap.size, 1, none⟩ = some (.slice none 0 0) ∧ (∀ j, W.frozen? ⟨W0.heap.size, j, none⟩ = false) ∧
    W.cell? ⟨W0.heap.size + 1, 0, none⟩ = some (.int .i64 0) ∧ W.cell? ⟨W0.heap.size + 1, 1, none⟩ = some (.int .i64 0) ∧ W.cell? ⟨W0.heap.size + 1, 2, none⟩ = some (.int .i64 0) ∧ ∀ j, W.frozen? ⟨W0.heap.size + 1, j, none⟩ = false :=
  ⟨cell_of_row _ _ 0 _ _ (0, 0) h.g, cell_of_row _ _ 1 _ _ (0, 0) h.g, frozen_row h.g, cell_of_row _ _ 0 _ _ (0, 0) h.k, cell_of_row _ _ 1 _ _ (0, 0) h.k, cell_of_row _ _ 2 _ _ (0, 0) h.k, frozen_row h.k⟩

set_option maxHeartbeats 4000000 in
theorem parse_text (s : ByteArray) (W : World) (hs : s.size ≤ 1048576) :
    Calls Try.prog 23 #[.string s] W (Parsed W (parseS (bs s))) := by
  obtain ⟨hb, hz, hg, hk⟩ := two_new W
  have KS := Lx.scan_any s ((W.alloc (.cells #[.string ⟨#[]⟩, .slice none 0 0] 25)).alloc (.cells #[.int .i64 0, .int .i64 0, .int .i64 0] 67)) hs
  have H2 := Lib.hid (show TwoAt W ((W.alloc (.cells #[.string ⟨#[]⟩, .slice none 0 0] 25)).alloc (.cells #[.int .i64 0, .int .i64 0, .int .i64 0] 67)) from ⟨hg, hk, hb, by rw [hz]; exact Nat.le_refl _⟩)
  clear hb hz hg hk
  have hc : (∃ f, f.2.2 ≠ 0 ∧ Lx.scanS (bs s) = ([], f)) ∨ (∃ T e, Lx.scanS (bs s) = (T ++ [e], (0, 0, 0)) ∧ e.kind = 4 ∧ T.length ≤ 65536) := by
    by_cases hl : (bs s).length ≤ 65536
    · rcases Lx.scanS_cases (bs s) hl with ⟨f, hf, h⟩ | ⟨T, e, h, he, _, _, _, hT⟩
      · exact .inl ⟨f, hf, h⟩
      · exact .inr ⟨T, e, h, he, by omega⟩
    · exact .inl ⟨(0, 0, 6), by simp, by rw [Lx.scanS, if_pos (by omega)]⟩
  rcases hc with ⟨⟨f0, f1, f2⟩, hf, hsc⟩ | ⟨T, e, hsc, he, hT⟩
  · have hP : parseS (bs s) = .no f0 f1 f2 := by rw [parseS, hsc, if_pos hf]
    rw [hP]
    rw [hsc] at KS
    have e1 : ((f2 : Int) != 0) = true := by rw [bne_iff_ne]; simp only at hf; omega
    have HK := Lib.hid KS
    clear KS hP hsc hf
    go_enter Try.func23, Try.ntmps23
    go_wp2_with fail
    refine HK.out.mono ?_
    rintro e w1 ⟨A, cap, rfl, hown, b1⟩
    simp only [Lx.fltV]
    have H1 := Lib.hid (H2.out.below b1)
    clear hown b1
    go_wp2
    have hn := heap_alloc_new w1 (.cells #[.int .i64 f0, .int .i64 f1, .int .i64 f2] 67)
    have H3 := Lib.hid (H1.out.below ((Below.refl _ _).alloc (Nat.le_refl _) (.cells #[.int .i64 f0, .int .i64 f1, .int .i64 f2] 67)))
    have hsz := H1.out.size
    generalize hW : World.alloc w1 _ = V
    rw [hW] at hn H3
    have n0 : V.cell? ⟨w1.heap.size, 0, none⟩ = some (.int .i64 f0) := cell_of_row _ _ 0 _ _ (0, 0) hn
    have n1 : V.cell? ⟨w1.heap.size, 1, none⟩ = some (.int .i64 f1) := cell_of_row _ _ 1 _ _ (0, 0) hn
    have n2 : V.cell? ⟨w1.heap.size, 2, none⟩ = some (.int .i64 f2) := cell_of_row _ _ 2 _ _ (0, 0) hn
    obtain ⟨g0, g1, gf, k0, k1, k2, kf⟩ := H3.out.facts
    have q1 : w1.heap.size ≠ W.heap.size := by omega
    have q2 : w1.heap.size ≠ W.heap.size + 1 := by omega
    clear hW hn
    go_region
    all_goals
      obtain ⟨u1, u2, u3, e1, e2, e3, u4⟩ := five_cells H3.out.g H3.out.k (by omega) (.string ⟨#[]⟩) (.slice none 0 0) (.int .i64 f0) (.int .i64 f1) (.int .i64 f2)
      have hbel : Below W.heap.size W _ := H3.out.bel.trans ⟨e1, e2, e3, Nat.le_of_eq u3.symm, fun b hb => u4 b (by omega) (by omega)⟩
      go_wp2
      exact bodyPost_ret (Lx.results_cells2 (P := Try.prog) rfl _ _ W.heap.size (W.heap.size + 1) 25 67 _ _ (0, 0) (0, 0) _ _ rfl u1 Try.underlying25 rfl rfl rfl u2 Try.underlying67 rfl rfl) rfl ⟨_, _, rfl, below_drew' hbel, rfl, rfl⟩
  · have hP : parseS (bs s) = parseT (T ++ [e]) := by rw [parseS, hsc, if_neg (by simp)]
    rw [hP]
    clear hP
    rw [hsc] at KS
    have hE := ended_app T e he
    have hlen : 0 < (T ++ [e]).length := by simp
    have hlen2 : (T ++ [e]).length ≤ 65537 := by simp; omega
    obtain ⟨ts, hts⟩ : ∃ ts, ts = T ++ [e] := ⟨_, rfl⟩
    rw [← hts] at KS hE hlen hlen2 ⊢
    have e1 : ((0 : Int) != 0) = false := rfl
    have KP := fun w r cap ht hc => parse_any ts hE hlen2 hlen w r cap ht hc
    generalize parseT ts = R at KP ⊢
    have HK := Lib.hid KS
    have HP := Lib.hid KP
    clear KS hsc he hts KP
    go_enter Try.func23, Try.ntmps23
    go_wp2_with fail
    refine HK.out.mono ?_
    rintro e w1 ⟨A, cap, rfl, hown, b1⟩
    simp only [Lx.fltV]
    obtain ⟨r, rfl, htk, hcap⟩ := Lx.toks_of hown hlen
    have H1 := Lib.hid (H2.out.below b1)
    have HT := Lib.hid htk
    clear hown b1 htk
    go_wp2_with fail
    refine (HP.out _ r cap (HT.out.alloc _) hcap).mono ?_
    rintro e w2 ⟨x, y, rfl, hb2, hR⟩
    have H3 := Lib.hid ((H1.out.below ((Below.refl _ _).alloc (Nat.le_refl _) (.cells #[.int .i64 0, .int .i64 0, .int .i64 0] 67))).below hb2)
    obtain ⟨g0, g1, gf, k0, k1, k2, kf⟩ := H3.out.facts
    have hsz := H1.out.size
    cases R with
    | no l c q =>
      obtain ⟨rfl, rfl⟩ := hR
      clear hb2
      go_wp2
      obtain ⟨u1, u2, u3, e1, e2, e3, u4⟩ := five_cells H3.out.g H3.out.k (by omega) (.string ⟨#[]⟩) (.slice none 0 0) (.int .i64 l) (.int .i64 c) (.int .i64 q)
      have hbel : Below W.heap.size W _ := H3.out.bel.trans ⟨e1, e2, e3, Nat.le_of_eq u3.symm, fun b hb => u4 b (by omega) (by omega)⟩
      exact bodyPost_ret (Lx.results_cells2 (P := Try.prog) rfl _ _ W.heap.size (W.heap.size + 1) 25 67 _ _ (0, 0) (0, 0) _ _ rfl u1 Try.underlying25 rfl rfl rfl u2 Try.underlying67 rfl rfl) rfl ⟨_, _, rfl, hbel, rfl, rfl⟩
    | ok G j =>
      obtain ⟨⟨y, rfl, hr⟩, rfl⟩ := hR
      have hr1 := hr.keep (Q := fun q => W.heap.size + 2 ≤ q) (Nat.le_refl _) fun q hq _ => ⟨by simp at hq; omega, fun _ => rfl⟩
      obtain ⟨A, cp, rr, fa, fb, fc, rfl, hr2, hr3, hr4⟩ := hr
      have HR := Lib.hid hr1
      clear hb2 hr1 hr2 hr3 hr4
      go_wp2
      obtain ⟨u1, u2, u3, e1, e2, e3, u4⟩ := five_cells H3.out.g H3.out.k (by omega) (.string (Lx.mk G.start)) (.slice A G.rules.length cp) (.int .i64 0) (.int .i64 0) (.int .i64 0)
      have hbel : Below W.heap.size W _ := H3.out.bel.trans ⟨e1, e2, e3, Nat.le_of_eq u3.symm, fun b hb => u4 b (by omega) (by omega)⟩
      refine bodyPost_ret (Lx.results_cells2 (P := Try.prog) rfl _ _ W.heap.size (W.heap.size + 1) 25 67 _ _ (0, 0) (0, 0) _ _ rfl u1 Try.underlying25 rfl rfl rfl u2 Try.underlying67 rfl rfl) rfl ⟨_, _, rfl, hbel, ⟨_, rfl, HR.out.keep (Nat.le_of_eq u3.symm) fun q hq _ => ⟨by omega, fun j => ?_⟩⟩, rfl⟩
      have := u4 q (by omega) (by omega)
      unfold World.cell?
      simp only [this]
end Go.Proofs.Ytakihbjfkpebcaa.Sx
