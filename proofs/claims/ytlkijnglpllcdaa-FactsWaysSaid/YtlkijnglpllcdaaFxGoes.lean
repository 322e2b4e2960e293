/-
  The walks of the closures that tell where one goes from a right side; append of a row of numbers, empty or not, onto a row of the call's own.
-/
import Derived.Test.YtlkijnglpllcdaaFxAhead
import Derived.Maps.AppendAt
import Derived.Laws.AppendOwnNone
namespace Go.Proofs.Ytlkijnglpllcdaa.Fx
open Go.RowKit
set_option maxRecDepth 100000

theorem goes_all (r : List Int) (P : Nat → Prop) (W : World) (v : Value) (h : IntsAt P W r v) :
    Calls Try.prog 33 #[v] W (TellsInts W r) := by
  have HRET := Lib.hid (h.keep (Q := fun _ => True) (Nat.le_refl _) fun q _ _ => ⟨trivial, fun _ => rfl⟩)
  obtain ⟨A, cap, rfl⟩ := h.form
  clear h
  go_enter Try.func33, Try.ntmps33
  go_wp2
  go_ret
  exact ⟨_, rfl, HRET.out, Below.refl _ _⟩

theorem goes_lone (N : List Bool) (r : List Int) (hr : ∀ s ∈ r, s < (N.length : Int)) (hn : r.length ≤ 1048576) (P Q : Nat → Prop) (W : World) (v u : Value) (B : Nat) (h : IntsAt P W r v) (hu : BoolsAt Q W N u) (hB : W.cell? ⟨B, 0, none⟩ = some u) :
    Calls Try.prog 34 #[v, .pointer (some ⟨B, 0, none⟩)] W (TellsInts W (loneL N r)) := by
  have K := Lib.hid (lonely_any N r hr hn P Q W v u h hu)
  obtain ⟨A, cap, rfl⟩ := h.form
  obtain ⟨A2, cap2, rfl⟩ := hu.form
  clear h hu hr hn
  go_enter Try.func34, Try.ntmps34
  go_wp2_with fail
  refine K.out.mono ?_
  rintro e w3 ⟨u3, rfl, hi, hb⟩
  obtain ⟨A3, cap3, rfl⟩ := hi.form
  have HI := Lib.hid hi
  clear hi
  go_wp2
  go_ret
  exact ⟨_, rfl, HI.out, hb⟩

theorem goes_ahead (L r : List Int) (hL : LensOk L) (hr : ∀ s ∈ r, s < (L.length : Int)) (hn : r.length ≤ 1048576) (P Q : Nat → Prop) (W : World) (v u : Value) (B : Nat) (h : IntsAt P W r v) (hu : IntsAt Q W L u) (hB : W.cell? ⟨B, 0, none⟩ = some u) :
    Calls Try.prog 29 #[v, .pointer (some ⟨B, 0, none⟩)] W (TellsInts W (aheadL L r)) := by
  have K := Lib.hid (ahead_any L r hL hr hn P Q W v u h hu)
  obtain ⟨A, cap, rfl⟩ := h.form
  obtain ⟨A2, cap2, rfl⟩ := hu.form
  clear h hu hr hn
  go_enter Try.func29, Try.ntmps29
  go_wp2_with fail
  refine K.out.mono ?_
  rintro e w3 ⟨⟨u3, rfl, hi⟩, rfl⟩
  have HI := Lib.hid (hi.keep (Q := fun _ => True) (Nat.le_refl _) fun q _ _ => ⟨trivial, fun _ => rfl⟩)
  obtain ⟨A3, cap3, rfl⟩ := hi.form
  clear hi
  go_wp2
  go_ret
  exact ⟨_, rfl, HI.out, Below.refl _ _⟩
end Go.Proofs.Ytlkijnglpllcdaa.Fx
