/-
  The bytes of an Out; and the sentence that each statement opens with.
-/
import Derived.Test.YtgbpofgmomglfaaDoorMOut4
import Derived.Test.YtgbpofgmomglfaaDoorOctGet
namespace Go.Proofs.YtgbpofgmomglfaaDoor.Oct
set_option maxRecDepth 100000
open Go.RowKit

/-- What Bytes tells. -/
def Told (st : Option (List UInt8)) (w : World) (e : Ending) (w' : World) : Prop := e = .returned (.tuple #[.string ⟨(st.getD []).toArray⟩, .bool st.isSome]) ∧ Drew w w'

theorem own_string (w : World) (c : Nat) (A : Option Addr) (cap : Nat) (l : List UInt8) (hown : w.ownsRow c 5 1 (.slice A l.length cap) l.length (l.map u8v)) (n : Nat) :
    (convert 91 9 (.slice A l.length cap)).run Tryd.prog (w.drewN n) = .ok (.string ⟨l.toArray⟩) (w.drewN n) := by
  rcases hown.2 with ⟨h1, h2⟩ | ⟨r, cp, cur, hv, _⟩
  · have hl : l = [] := List.eq_nil_of_length_eq_zero (by simpa using h2)
    subst hl
    injection h1 with h1 h3 h4
    subst h1
    exact run_convert_bytes_nil _ 91 5 Tryd.underlying91 Tryd.underlying5 _ _ 9 Tryd.underlying9
  · have hA : A = some ⟨r, 0, none⟩ := by injection hv
    subst hA
    have hc := hown.cells (g := r) rfl
    exact run_convert_bytes_back (P := Tryd.prog) (w.drewN n) 91 9 5 ⟨r, 0, none⟩ cap l Tryd.underlying91 Tryd.underlying5 Tryd.underlying9 (fun j hj => by
      refine (hc j _ ?_)
      rw [List.getElem?_map, List.getElem?_eq_getElem hj]
      rfl)

theorem bytes_bad (g c : Nat) (w : World) (h : OutSt w g c none) :
    Calls Tryd.prog 30 #[.pointer (some ⟨g, 0, none⟩)] w (Told none w) := by
  have c2 : w.cell? ⟨g, 2, none⟩ = some (.bool true) := cell_of_row w g 2 _ _ (0, 0) h.2.2
  clear h
  go_enter Tryd.func30, Tryd.ntmps30
  go_wp2
  go_ret2
  exact ⟨rfl, 0, rfl⟩

theorem bytes_any (g c : Nat) (st : Option (List UInt8)) (w : World) (h : OutSt w g c st) :
    Calls Tryd.prog 30 #[.pointer (some ⟨g, 0, none⟩)] w (Told st w) := by
  cases st with
  | none => exact bytes_bad g c w h
  | some l =>
    rcases h.2.2 with ⟨rfl, hg⟩ | ⟨k, A, cap, hk, hg, hh, hown⟩
    · have c0 : w.cell? ⟨g, 0, none⟩ = some (.pointer none) := cell_of_row w g 0 _ _ (0, 0) hg
      have c2 : w.cell? ⟨g, 2, none⟩ = some (.bool false) := cell_of_row w g 2 _ _ (0, 0) hg
      have hcv : (convert 91 9 (.slice none 0 0)).run Tryd.prog w = .ok (.string ByteArray.empty) w :=
        run_convert_bytes_nil w 91 5 Tryd.underlying91 Tryd.underlying5 0 0 9 Tryd.underlying9
      clear h hg
      go_enter Tryd.func30, Tryd.ntmps30
      go_wp2_with fail
      refine (written_nil _ _ c0).mono ?_
      rintro e w' ⟨rfl, rfl⟩
      go_wp2
      go_ret2
      exact ⟨rfl, 0, rfl⟩
    · have c2 : w.cell? ⟨g, 2, none⟩ = some (.bool false) := cell_of_row w g 2 _ _ (0, 0) hg
      have HW : Hid (∀ W, W = w → Calls Tryd.prog 57 #[.pointer (some ⟨g, 0, none⟩)] W (Wr A l.length cap W)) := fun W hW => by subst hW; exact written_more g c k A cap l W hg hh hown
      obtain ⟨t, ht⟩ : ∃ t : ByteArray, t = ⟨l.toArray⟩ := ⟨_, rfl⟩
      have hcv := own_string w c A cap l hown
      rw [← ht] at hcv
      have hfin : Told (some l) w = fun e w' => e = .returned (.tuple #[.string t, .bool true]) ∧ Drew w w' := by rw [ht]; rfl
      rw [hfin]
      clear h hg hh hown ht hfin
      go_enter Tryd.func30, Tryd.ntmps30
      go_wp2_with fail
      refine (HW.out _ rfl).mono ?_
      rintro e w' ⟨rfl, n, rfl⟩
      go_wp2
      go_ret2
      exact ⟨rfl, _, rfl⟩

theorem OutSt.new (w : World) : OutSt (w.alloc (obj (.pointer none) (.int .i64 0) (.bool false))) w.heap.size (w.heap.size + 1) (some []) :=
  ⟨by omega, by simp, .inl ⟨rfl, heap_alloc_new w _⟩⟩

theorem Drew.below {w w' : World} (h : Drew w w') (B : Nat) : Below B w w' := by
  obtain ⟨n, rfl⟩ := h
  exact ⟨rfl, rfl, rfl, Nat.le_refl _, fun _ _ => rfl⟩

end Go.Proofs.YtgbpofgmomglfaaDoor.Oct
