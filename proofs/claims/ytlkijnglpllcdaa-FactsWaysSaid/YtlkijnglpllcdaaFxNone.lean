/-
  Of a grammar that isn't sound nothing is told.
-/
import Derived.Test.YtlkijnglpllcdaaFxFirst
namespace Go.Proofs.Ytlkijnglpllcdaa.Fx
open Go.RowKit
set_option maxRecDepth 100000

/-- Nothing is told. -/
def TellsNil (W : World) (e : Ending) (w' : World) : Prop := ∃ A c, e = .returned (.slice A 0 c) ∧ Below W.heap.size W w'
theorem short_none (g : PG) (hs : g.Fits) (hsd : soundB g = false) (P : Nat → Prop) (W : World) (v : Value) (h : PgAt P W g v) :
    Calls Try.prog 10 #[v] W (TellsNil W) := by
  obtain ⟨An, At_, Ap, cn, ct, cp, rfl, _, _, _⟩ := h.open_
  have hbb : Below W.heap.size W (W.alloc (.cells #[.int .i64 g.start, .int .i64 g.rules, .slice An g.names.length cn, .slice At_ g.terms.length ct, .slice Ap g.prods.length cp] 30)) := (Below.refl _ _).alloc (Nat.le_refl _) _
  have hbx := heap_alloc_new W (.cells #[.int .i64 g.start, .int .i64 g.rules, .slice An g.names.length cn, .slice At_ g.terms.length ct, .slice Ap g.prods.length cp] 30)
  have KS := sound_any g hs P _ _ (h.under hbb)
  rw [hsd] at KS
  have HKS := Lib.hid KS
  have HBB := Lib.hid hbb
  clear h hs hsd hbb KS
  go_enter Try.func10, Try.ntmps10
  go_wp2_with fail
  refine HKS.out.mono ?_
  rintro e w1 ⟨rfl, b1⟩
  have HB1 := Lib.hid (HBB.out.trans (b1.mono HBB.out.size))
  clear b1
  go_wp2
  go_ret
  exact ⟨_, _, rfl, HB1.out⟩
theorem reach_none (g : PG) (hs : g.Fits) (hsd : soundB g = false) (P : Nat → Prop) (W : World) (v : Value) (h : PgAt P W g v) :
    Calls Try.prog 18 #[v] W (TellsNil W) := by
  obtain ⟨An, At_, Ap, cn, ct, cp, rfl, _, _, _⟩ := h.open_
  have hbb : Below W.heap.size W (W.alloc (.cells #[.int .i64 g.start, .int .i64 g.rules, .slice An g.names.length cn, .slice At_ g.terms.length ct, .slice Ap g.prods.length cp] 30)) := (Below.refl _ _).alloc (Nat.le_refl _) _
  have hbx := heap_alloc_new W (.cells #[.int .i64 g.start, .int .i64 g.rules, .slice An g.names.length cn, .slice At_ g.terms.length ct, .slice Ap g.prods.length cp] 30)
  have KS := sound_any g hs P _ _ (h.under hbb)
  rw [hsd] at KS
  have HKS := Lib.hid KS
  have HBB := Lib.hid hbb
  clear h hs hsd hbb KS
  go_enter Try.func18, Try.ntmps18
  go_wp2_with fail
  refine HKS.out.mono ?_
  rintro e w1 ⟨rfl, b1⟩
  have HB1 := Lib.hid (HBB.out.trans (b1.mono HBB.out.size))
  clear b1
  go_wp2
  go_ret
  exact ⟨_, _, rfl, HB1.out⟩
theorem loops_none (g : PG) (hs : g.Fits) (hsd : soundB g = false) (P : Nat → Prop) (W : World) (v : Value) (h : PgAt P W g v) :
    Calls Try.prog 20 #[v] W (TellsNil W) := by
  obtain ⟨An, At_, Ap, cn, ct, cp, rfl, _, _, _⟩ := h.open_
  have hbb : Below W.heap.size W (W.alloc (.cells #[.int .i64 g.start, .int .i64 g.rules, .slice An g.names.length cn, .slice At_ g.terms.length ct, .slice Ap g.prods.length cp] 30)) := (Below.refl _ _).alloc (Nat.le_refl _) _
  have hbx := heap_alloc_new W (.cells #[.int .i64 g.start, .int .i64 g.rules, .slice An g.names.length cn, .slice At_ g.terms.length ct, .slice Ap g.prods.length cp] 30)
  have KS := sound_any g hs P _ _ (h.under hbb)
  rw [hsd] at KS
  have HKS := Lib.hid KS
  have HBB := Lib.hid hbb
  clear h hs hsd hbb KS
  go_enter Try.func20, Try.ntmps20
  go_wp2_with fail
  refine HKS.out.mono ?_
  rintro e w1 ⟨rfl, b1⟩
  have HB1 := Lib.hid (HBB.out.trans (b1.mono HBB.out.size))
  clear b1
  go_wp2
  go_ret
  exact ⟨_, _, rfl, HB1.out⟩
theorem first_none (g : PG) (hs : g.Fits) (hsd : soundB g = false) (P : Nat → Prop) (W : World) (v : Value) (h : PgAt P W g v) :
    Calls Try.prog 16 #[v] W (TellsNil W) := by
  obtain ⟨An, At_, Ap, cn, ct, cp, rfl, _, _, _⟩ := h.open_
  have hbb : Below W.heap.size W (W.alloc (.cells #[.int .i64 g.start, .int .i64 g.rules, .slice An g.names.length cn, .slice At_ g.terms.length ct, .slice Ap g.prods.length cp] 30)) := (Below.refl _ _).alloc (Nat.le_refl _) _
  have hbx := heap_alloc_new W (.cells #[.int .i64 g.start, .int .i64 g.rules, .slice An g.names.length cn, .slice At_ g.terms.length ct, .slice Ap g.prods.length cp] 30)
  have KS := sound_any g hs P _ _ (h.under hbb)
  rw [hsd] at KS
  have HKS := Lib.hid KS
  have HBB := Lib.hid hbb
  clear h hs hsd hbb KS
  go_enter Try.func16, Try.ntmps16
  go_wp2_with fail
  refine HKS.out.mono ?_
  rintro e w1 ⟨rfl, b1⟩
  have HB1 := Lib.hid (HBB.out.trans (b1.mono HBB.out.size))
  clear b1
  go_wp2
  go_ret
  exact ⟨_, _, rfl, HB1.out⟩
theorem nullable_none (g : PG) (hs : g.Fits) (hsd : soundB g = false) (P : Nat → Prop) (W : World) (v : Value) (h : PgAt P W g v) :
    Calls Try.prog 14 #[v] W (TellsNil W) := by
  obtain ⟨An, At_, Ap, cn, ct, cp, rfl, _, _, _⟩ := h.open_
  have hbb : Below W.heap.size W (W.alloc (.cells #[.int .i64 g.start, .int .i64 g.rules, .slice An g.names.length cn, .slice At_ g.terms.length ct, .slice Ap g.prods.length cp] 30)) := (Below.refl _ _).alloc (Nat.le_refl _) _
  have HKS := Lib.hid (short_none g hs hsd P _ _ (h.under hbb))
  have HBB := Lib.hid hbb
  clear h hs hsd hbb
  go_enter Try.func14, Try.ntmps14
  go_wp2_with fail
  refine HKS.out.mono ?_
  rintro e w1 ⟨A1, c1, rfl, b1⟩
  have KA := Lib.hid (asked_nul [] (by simp) (fun _ => True) w1 _ (IntsAt.nil _ w1 A1 c1))
  have HB1 := Lib.hid (HBB.out.trans (b1.mono HBB.out.size))
  clear b1
  go_wp2_with fail
  refine KA.out.mono ?_
  rintro e w2 ⟨u, rfl, hown, b2⟩
  obtain ⟨A2, c2, rfl⟩ := Gn.slice_of hown
  have HB2 := Lib.hid (HB1.out.trans (b2.mono HB1.out.size))
  clear hown b2
  go_wp2
  go_ret
  exact ⟨A2, c2, rfl, HB2.out⟩
theorem generating_none (g : PG) (hs : g.Fits) (hsd : soundB g = false) (P : Nat → Prop) (W : World) (v : Value) (h : PgAt P W g v) :
    Calls Try.prog 12 #[v] W (TellsNil W) := by
  obtain ⟨An, At_, Ap, cn, ct, cp, rfl, _, _, _⟩ := h.open_
  have hbb : Below W.heap.size W (W.alloc (.cells #[.int .i64 g.start, .int .i64 g.rules, .slice An g.names.length cn, .slice At_ g.terms.length ct, .slice Ap g.prods.length cp] 30)) := (Below.refl _ _).alloc (Nat.le_refl _) _
  have HKS := Lib.hid (short_none g hs hsd P _ _ (h.under hbb))
  have HBB := Lib.hid hbb
  clear h hs hsd hbb
  go_enter Try.func12, Try.ntmps12
  go_wp2_with fail
  refine HKS.out.mono ?_
  rintro e w1 ⟨A1, c1, rfl, b1⟩
  have KA := Lib.hid (asked_gen [] (by simp) (fun _ => True) w1 _ (IntsAt.nil _ w1 A1 c1))
  have HB1 := Lib.hid (HBB.out.trans (b1.mono HBB.out.size))
  clear b1
  go_wp2_with fail
  refine KA.out.mono ?_
  rintro e w2 ⟨u, rfl, hown, b2⟩
  obtain ⟨A2, c2, rfl⟩ := Gn.slice_of hown
  have HB2 := Lib.hid (HB1.out.trans (b2.mono HB1.out.size))
  clear hown b2
  go_wp2
  go_ret
  exact ⟨A2, c2, rfl, HB2.out⟩
end Go.Proofs.Ytlkijnglpllcdaa.Fx
