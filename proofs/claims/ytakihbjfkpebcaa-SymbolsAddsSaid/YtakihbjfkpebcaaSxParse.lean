/-
  The walks of parse and Parse.
-/
import Derived.Test.YtakihbjfkpebcaaSxCatch
import Derived.Test.YtakihbjfkpebcaaLxAt
import Derived.Test.YtakihbjfkpebcaaSxRun
namespace Go.Proofs.Ytakihbjfkpebcaa.Sx
open Go.RowKit
open Lx (Tk Toks bs fltV)
set_option maxRecDepth 100000

/-- What Parse tells of a text. -/
def parseS (s : List UInt8) : Res Gram := if (Lx.scanS s).2.2.2 ≠ 0 then .no (Lx.scanS s).2.1 (Lx.scanS s).2.2.1 (Lx.scanS s).2.2.2 else parseT (Lx.scanS s).1

/-- A grammar and no fault, or none and a fault; nothing that was there is turned. -/
def Parsed (W : World) (R : Res Gram) (e : Ending) (w' : World) : Prop :=
  ∃ x y, e = .returned (.tuple #[x, y]) ∧ Below W.heap.size W w' ∧
    match R with
    | .no l c k => x = .agg #[.string ⟨#[]⟩, .slice none 0 0] ∧ y = .agg #[.int .i64 l, .int .i64 c, .int .i64 k]
    | .ok G _ => GV W.heap.size G x w' ∧ y = .agg #[.int .i64 0, .int .i64 0, .int .i64 0]

set_option maxHeartbeats 4000000 in
theorem parse_any (ts : List Tk) (hE : Ended ts) (hn : ts.length ≤ 65537) (h0 : 0 < ts.length) (W : World) (r cap : Nat) (ht : Toks W r ts) (hc : ts.length ≤ cap) :
    Calls Try.prog 39 #[.slice (some ⟨r, 0, none⟩) ts.length cap] W (Parsed W (parseT ts)) := by
  have hmf : ∀ (fn : Fn) (first cap : Array Value) (w : World), (Instr.makeFunc fn first cap).run Try.prog w = .ok (.func fn first cap) w := fun _ _ _ _ => rfl
  obtain ⟨R, hR⟩ : ∃ R, R = parseT ts := ⟨_, rfl⟩
  have hP : pGram ts (7 * ts.length + 8) = some R := by rw [hR]; exact parseT_is ts
  rw [← hR]
  clear hR
  have hb : Below W.heap.size W (((W.alloc (.cells #[.string ⟨#[]⟩, .slice none 0 0] 25)).alloc (.cells #[.int .i64 0, .int .i64 0, .int .i64 0] 67)).alloc (.cells #[.slice (some ⟨r, 0, none⟩) ts.length cap, .int .i64 0, .int .i64 0] 115)) := (((Below.refl _ _).alloc (Nat.le_refl _) _).alloc (by simp) _).alloc (by simp; omega) _
  have hp : PAt (((W.alloc (.cells #[.string ⟨#[]⟩, .slice none 0 0] 25)).alloc (.cells #[.int .i64 0, .int .i64 0, .int .i64 0] 67)).alloc (.cells #[.slice (some ⟨r, 0, none⟩) ts.length cap, .int .i64 0, .int .i64 0] 115)) (W.heap.size + 2) r ts cap 0 0 := by
    refine ⟨?_, ht.below hb, hc, by have := ht.1; omega⟩
    have := heap_alloc_new ((W.alloc (.cells #[.string ⟨#[]⟩, .slice none 0 0] 25)).alloc (.cells #[.int .i64 0, .int .i64 0, .int .i64 0] 67)) (.cells #[.slice (some ⟨r, 0, none⟩) ts.length cap, .int .i64 0, .int .i64 0] 115)
    rw [heap_size_alloc', heap_size_alloc'] at this
    exact this
  have KG := gram_any ts hE hn _ _ _ _ _ R hp h0 hP
  have HK := Lib.hid KG
  have HB := Lib.hid hb
  clear KG hp hb hP ht
  go_enter_defers Try.func39, Try.ntmps39
  go_wp2_with fail
  refine HK.out.mono ?_
  rintro e w1 ho
  have hsz3 : (((W.alloc (.cells #[.string ⟨#[]⟩, .slice none 0 0] 25)).alloc (.cells #[.int .i64 0, .int .i64 0, .int .i64 0] 67)).alloc (.cells #[.slice (some ⟨r, 0, none⟩) ts.length cap, .int .i64 0, .int .i64 0] 115)).heap.size = W.heap.size + 3 := by simp
  have hgg : (((W.alloc (.cells #[.string ⟨#[]⟩, .slice none 0 0] 25)).alloc (.cells #[.int .i64 0, .int .i64 0, .int .i64 0] 67)).alloc (.cells #[.slice (some ⟨r, 0, none⟩) ts.length cap, .int .i64 0, .int .i64 0] 115)).heap[W.heap.size]? = some (.cells #[.string ⟨#[]⟩, .slice none 0 0] 25 (0, 0)) :=
    (heap_alloc_old _ _ (by simp; omega)).trans ((heap_alloc_old _ _ (by simp)).trans (heap_alloc_new W _))
  have hkk : (((W.alloc (.cells #[.string ⟨#[]⟩, .slice none 0 0] 25)).alloc (.cells #[.int .i64 0, .int .i64 0, .int .i64 0] 67)).alloc (.cells #[.slice (some ⟨r, 0, none⟩) ts.length cap, .int .i64 0, .int .i64 0] 115)).heap[W.heap.size + 1]? = some (.cells #[.int .i64 0, .int .i64 0, .int .i64 0] 67 (0, 0)) := by
    have := heap_alloc_new (W.alloc (.cells #[.string ⟨#[]⟩, .slice none 0 0] 25)) (.cells #[.int .i64 0, .int .i64 0, .int .i64 0] 67)
    rw [heap_size_alloc'] at this
    exact (heap_alloc_old _ _ (by simp)).trans this
  have HS3 := Lib.hid hsz3
  have HGG := Lib.hid hgg
  have HKK := Lib.hid hkk
  clear hsz3 hgg hkk
  cases R with
  | no l c q =>
    obtain ⟨rfl, hs⟩ := ho
    have hg1 := (hs.block _ (by rw [HS3.out]; omega) (by omega)).trans HGG.out
    have hk1 := (hs.block _ (by rw [HS3.out]; omega) (by omega)).trans HKK.out
    have hb1 := HB.out.trans (hs.below (B := W.heap.size) (by omega) (by rw [HS3.out]; omega))
    have HG1 := Lib.hid hg1
    have HK1 := Lib.hid hk1
    have HB1 := Lib.hid hb1
    clear hg1 hk1 hb1 hs
    go_wp2
    refine leaves_cons (f := 50) (args := #[.pointer (some ⟨W.heap.size, 0, none⟩), .pointer (some ⟨W.heap.size + 1, 0, none⟩)]) (by simp) (by simp [go_sem]) ?_
    refine (catch_fault W.heap.size (W.heap.size + 1) l c q w1 HG1.out HK1.out (by omega)).mono ?_
    rintro e u' w2 ⟨rfl, rfl, c1, c2, c3, c4, c5, c6, c7⟩
    refine (show Leaves Try.prog Try.f39 _ _ [] .returning w2 from ⟨_, Lx.results_cells2 (P := Try.prog) rfl _ _ W.heap.size (W.heap.size + 1) 25 67 _ _ (0, 0) (0, 0) _ _ rfl c1 Try.underlying25 rfl rfl rfl c2 Try.underlying67 rfl rfl, ?_⟩)
    have hsz := HB1.out.size
    exact ⟨_, _, rfl, HB1.out.trans ⟨c3, c4, c5, c6, fun b hb => c7 b (by omega) (by omega) (by omega)⟩, rfl, rfl⟩
  | ok G j =>
    obtain ⟨x, rfl, ⟨y, rfl, hr⟩, hp1, hs⟩ := ho
    obtain ⟨A, cp, rr, fa, fb, fc, rfl, hr2, hr3, hr4⟩ := hr
    have hg1 := (hs.block _ (by rw [HS3.out]; omega) (by omega)).trans HGG.out
    have hk1 := (hs.block _ (by rw [HS3.out]; omega) (by omega)).trans HKK.out
    have hb1 := HB.out.trans (hs.below (B := W.heap.size) (by omega) (by rw [HS3.out]; omega))
    have g0 : w1.cell? ⟨W.heap.size, 0, none⟩ = some (.string ⟨#[]⟩) := cell_of_row _ _ 0 _ _ (0, 0) hg1
    have g1 : w1.cell? ⟨W.heap.size, 1, none⟩ = some (.slice none 0 0) := cell_of_row _ _ 1 _ _ (0, 0) hg1
    have gf := frozen_row hg1
    have k0 : w1.cell? ⟨W.heap.size + 1, 0, none⟩ = some (.int .i64 0) := cell_of_row _ _ 0 _ _ (0, 0) hk1
    have k1 : w1.cell? ⟨W.heap.size + 1, 1, none⟩ = some (.int .i64 0) := cell_of_row _ _ 1 _ _ (0, 0) hk1
    have k2 : w1.cell? ⟨W.heap.size + 1, 2, none⟩ = some (.int .i64 0) := cell_of_row _ _ 2 _ _ (0, 0) hk1
    have kf := frozen_row hk1
    have HR := Lib.hid (show RlsAt (fun q => W.heap.size + 3 ≤ q) w1 G.rules (.slice A G.rules.length cp) from ⟨A, cp, rr, fa, fb, fc, rfl, hr2, fun h => by have := hr3 h; rw [HS3.out] at this; exact this, fun i h => ⟨(hr4 i h).1, (hr4 i h).2.keep (Nat.le_refl _) fun q hq _ => ⟨by rw [HS3.out] at hq; exact hq, fun _ => rfl⟩⟩⟩)
    have HG1 := Lib.hid hg1
    have HK1 := Lib.hid hk1
    have HB1 := Lib.hid hb1
    clear hg1 hk1 hb1 hs hp1 hr2 hr3 hr4
    go_wp2
    refine leaves_cons (f := 50) (args := #[.pointer (some ⟨W.heap.size, 0, none⟩), .pointer (some ⟨W.heap.size + 1, 0, none⟩)]) (by simp) (by simp [go_sem]) ?_
    refine (catch_idle ⟨W.heap.size, 0, none⟩ ⟨W.heap.size + 1, 0, none⟩ _).mono ?_
    rintro e u' w2 ⟨rfl, rfl, hw⟩
    obtain ⟨f1, f2, f3, e1, e2, e3, f4⟩ := five_cells HG1.out HK1.out (by omega) (.string (Lx.mk G.start)) (.slice A G.rules.length cp) (.int .i64 0) (.int .i64 0) (.int .i64 0)
    rw [← hw] at f1 f2 f3 e1 e2 e3 f4
    refine (show Leaves Try.prog Try.f39 _ _ [] .returning w2 from ⟨_, Lx.results_cells2 (P := Try.prog) rfl _ _ W.heap.size (W.heap.size + 1) 25 67 _ _ (0, 0) (0, 0) _ _ rfl f1 Try.underlying25 rfl rfl rfl f2 Try.underlying67 rfl rfl, ?_⟩)
    have hsz := HB1.out.size
    refine ⟨_, _, rfl, HB1.out.trans ⟨e1, e2, e3, Nat.le_of_eq f3.symm, fun b hb => f4 b (by omega) (by omega)⟩, ⟨_, rfl, HR.out.keep (Nat.le_of_eq f3.symm) fun q hq _ => ⟨by omega, fun j => ?_⟩⟩, rfl⟩
    have := f4 q (by omega) (by omega)
    unfold World.cell?
    simp only [this]
end Go.Proofs.Ytakihbjfkpebcaa.Sx
