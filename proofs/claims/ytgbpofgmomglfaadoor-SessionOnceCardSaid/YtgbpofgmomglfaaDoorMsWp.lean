/-
  Layer 23: the wiper, and whether nothing is told that a kind hasn't.
-/
import Derived.Test.YtgbpofgmomglfaaDoorMsSh
import Derived.Test.YtgbpofgmomglfaaDoorMsSm
namespace Go.Proofs.YtgbpofgmomglfaaDoor.Ms
open Gn (Asks)
open Go.RowKit
set_option maxRecDepth 100000
set_option linter.unusedSimpArgs false
set_option linter.unusedVariables false

/-- The message's block while it is wiped: its cells; all else is as it was. -/
def WpR (W0 : World) (mb : Nat) (kind : Int) (cs : Array Value) (w : World) : Prop :=
  w.heap[mb]? = some (.cells cs 53 (0, 0)) ∧ W0.heap.size ≤ mb ∧ Below W0.heap.size W0 w ∧ cs.size = 16 ∧ cs[0]? = some (.int .i64 kind)
theorem WpR.below {W0 w w' : World} {mb : Nat} {kind : Int} {cs : Array Value} (h : WpR W0 mb kind cs w) (b : Below w.heap.size w w') : WpR W0 mb kind cs w' :=
  ⟨(b.block _ (Gn.heap_lt h.1)).trans h.1, h.2.1, h.2.2.1.trans (b.mono h.2.2.1.size), h.2.2.2.1, h.2.2.2.2⟩
theorem WpR.set {W0 w : World} {mb : Nat} {kind : Int} {cs : Array Value} (h : WpR W0 mb kind cs w) (j : Nat) (hj : 0 < j) (u : Value) : WpR W0 mb kind (cs.setIfInBounds j u) (w.setCell ⟨mb, j, none⟩ u) :=
  ⟨Gn.heap_set h.1 j u, h.2.1, h.2.2.1.setCell h.2.1 _, by simp [h.2.2.2.1], by rw [Array.getElem?_setIfInBounds_ne (by omega)]; exact h.2.2.2.2⟩
theorem WpR.cell {W0 w : World} {mb : Nat} {kind : Int} {cs : Array Value} (h : WpR W0 mb kind cs w) (j : Nat) (hj : j < 16) : ∃ u, w.cell? ⟨mb, j, none⟩ = some u ∧ cs[j]? = some u := by
  obtain ⟨u, hu⟩ : ∃ u, cs[j]? = some u := ⟨_, Array.getElem?_eq_getElem (by rw [h.2.2.2.1]; exact hj)⟩
  exact ⟨u, (cell_of_row _ _ j _ _ (0, 0) h.1).trans hu, hu⟩
def wNext (cs : Array Value) : Sh → Array Value
  | .nums js => js.foldl (fun c j => c.setIfInBounds j (.int .i64 0)) cs
  | .known => cs.setIfInBounds 3 (.slice none 0 0)
  | .text j => cs.setIfInBounds j (.string ⟨#[]⟩)
  | .yes => cs.setIfInBounds 12 (.bool false)
  | .entry => cs.setIfInBounds 15 (.slice none 0 0)
  | .entries => cs.setIfInBounds 15 (.slice none 0 0)
def wP (full : Bool) (cs : Array Value) : Sh → Prop
  | .nums js => js.length ≤ 100 ∧ 0 < js.length ∧ ∀ j ∈ js, 0 < j ∧ j < 16
  | .text j => 0 < j ∧ j < 16
  | .yes => cs[12]? = some (.bool full)
  | _ => True
def wipV (W0 : World) (mb : Nat) (kind : Int) (full : Bool) : Vis (Array Value) :=
  ⟨128, .agg #[], .agg #[], 110, 109, 111, 112, 108, 107, mb, kind, full, WpR W0 mb kind, wP full, wNext⟩
theorem wknown (W0 : World) (mb : Nat) (kind : Int) (cs : Array Value) (w : World) (h : WpR W0 mb kind cs w) :
    Calls Tryd.prog 109 #[.agg #[], .pointer (some ⟨mb, 3, none⟩)] w fun e w' => e = .returned (.tuple #[]) ∧ WpR W0 mb kind (cs.setIfInBounds 3 (.slice none 0 0)) w' := by
  obtain ⟨V, hV⟩ : ∃ V, V = w.alloc (.cells #[] 128) := ⟨_, rfl⟩
  have h1 : WpR W0 mb kind cs V := by rw [hV]; exact h.below ((Below.refl _ w).alloc (Nat.le_refl _) _)
  obtain ⟨u, c0, -⟩ := h1.cell 3 (by omega)
  have hfz : V.frozen? ⟨mb, 3, none⟩ = false := Gn.frozen_row h1.1 _
  have HV := Lib.hid hV
  have H1 := Lib.hid h1
  clear hV h1 h
  go_enter Tryd.func109, Tryd.ntmps109
  go_upto_region 1 with fail
  rw [← HV.out]
  go_wp2
  go_end0
  exact ⟨rfl, H1.out.set 3 (by omega) _⟩
theorem wtext (W0 : World) (mb : Nat) (kind : Int) (cs : Array Value) (w : World) (j : Nat) (hj : 0 < j ∧ j < 16) (h : WpR W0 mb kind cs w) :
    Calls Tryd.prog 111 #[.agg #[], .pointer (some ⟨mb, j, none⟩)] w fun e w' => e = .returned (.tuple #[]) ∧ WpR W0 mb kind (cs.setIfInBounds j (.string ⟨#[]⟩)) w' := by
  obtain ⟨V, hV⟩ : ∃ V, V = w.alloc (.cells #[] 128) := ⟨_, rfl⟩
  have h1 : WpR W0 mb kind cs V := by rw [hV]; exact h.below ((Below.refl _ w).alloc (Nat.le_refl _) _)
  obtain ⟨u, c0, -⟩ := h1.cell j (by omega)
  have hfz : V.frozen? ⟨mb, j, none⟩ = false := Gn.frozen_row h1.1 _
  have HV := Lib.hid hV
  have H1 := Lib.hid h1
  clear hV h1 h
  go_enter Tryd.func111, Tryd.ntmps111
  go_upto_region 1 with fail
  rw [← HV.out]
  go_wp2
  go_end0
  exact ⟨rfl, H1.out.set j (by omega) _⟩
theorem wentry (W0 : World) (mb : Nat) (kind : Int) (cs : Array Value) (w : World) (h : WpR W0 mb kind cs w) :
    Calls Tryd.prog 108 #[.agg #[], .pointer (some ⟨mb, 15, none⟩)] w fun e w' => e = .returned (.tuple #[]) ∧ WpR W0 mb kind (cs.setIfInBounds 15 (.slice none 0 0)) w' := by
  obtain ⟨V, hV⟩ : ∃ V, V = w.alloc (.cells #[] 128) := ⟨_, rfl⟩
  have h1 : WpR W0 mb kind cs V := by rw [hV]; exact h.below ((Below.refl _ w).alloc (Nat.le_refl _) _)
  obtain ⟨u, c0, -⟩ := h1.cell 15 (by omega)
  have hfz : V.frozen? ⟨mb, 15, none⟩ = false := Gn.frozen_row h1.1 _
  have HV := Lib.hid hV
  have H1 := Lib.hid h1
  clear hV h1 h
  go_enter Tryd.func108, Tryd.ntmps108
  go_upto_region 1 with fail
  rw [← HV.out]
  go_wp2
  go_end0
  exact ⟨rfl, H1.out.set 15 (by omega) _⟩
theorem wentries (W0 : World) (mb : Nat) (kind : Int) (cs : Array Value) (w : World) (h : WpR W0 mb kind cs w) :
    Calls Tryd.prog 107 #[.agg #[], .pointer (some ⟨mb, 15, none⟩)] w fun e w' => e = .returned (.tuple #[]) ∧ WpR W0 mb kind (cs.setIfInBounds 15 (.slice none 0 0)) w' := by
  obtain ⟨V, hV⟩ : ∃ V, V = w.alloc (.cells #[] 128) := ⟨_, rfl⟩
  have h1 : WpR W0 mb kind cs V := by rw [hV]; exact h.below ((Below.refl _ w).alloc (Nat.le_refl _) _)
  obtain ⟨u, c0, -⟩ := h1.cell 15 (by omega)
  have hfz : V.frozen? ⟨mb, 15, none⟩ = false := Gn.frozen_row h1.1 _
  have HV := Lib.hid hV
  have H1 := Lib.hid h1
  clear hV h1 h
  go_enter Tryd.func107, Tryd.ntmps107
  go_upto_region 1 with fail
  rw [← HV.out]
  go_wp2
  go_end0
  exact ⟨rfl, H1.out.set 15 (by omega) _⟩
theorem wyes (W0 : World) (mb : Nat) (kind : Int) (full : Bool) (cs : Array Value) (w : World) (hf : cs[12]? = some (.bool full)) (h : WpR W0 mb kind cs w) :
    Calls Tryd.prog 112 #[.agg #[], .pointer (some ⟨mb, 12, none⟩)] w fun e w' => e = .returned (.bool full) ∧ WpR W0 mb kind (cs.setIfInBounds 12 (.bool false)) w' := by
  obtain ⟨V, hV⟩ : ∃ V, V = w.alloc (.cells #[] 128) := ⟨_, rfl⟩
  have h1 : WpR W0 mb kind cs V := by rw [hV]; exact h.below ((Below.refl _ w).alloc (Nat.le_refl _) _)
  have c0 : V.cell? ⟨mb, 12, none⟩ = some (.bool full) := (cell_of_row _ _ 12 _ _ (0, 0) h1.1).trans hf
  have hfz : V.frozen? ⟨mb, 12, none⟩ = false := Gn.frozen_row h1.1 _
  have HV := Lib.hid hV
  have H1 := Lib.hid h1
  clear hV h1 h hf
  go_enter Tryd.func112, Tryd.ntmps112
  go_upto_region 1 with fail
  rw [← HV.out]
  go_wp2
  go_ret
  exact ⟨rfl, H1.out.set 12 (by omega) _⟩
theorem fold_take (js : List Nat) (cs : Array Value) (k : Nat) (hk : k < js.length) : ((js.take (k + 1)).foldl (fun (c : Array Value) j => c.setIfInBounds j (.int .i64 0)) cs) = ((js.take k).foldl (fun (c : Array Value) j => c.setIfInBounds j (.int .i64 0)) cs).setIfInBounds js[k] (.int .i64 0) := by
  rw [List.take_succ_eq_append_getElem hk, List.foldl_append]
  rfl
set_option maxHeartbeats 4000000 in
theorem wnums (W0 : World) (mb : Nat) (kind : Int) (cs : Array Value) (w : World) (a : Nat) (js : List Nat) (hn : js.length ≤ 100) (hj : ∀ j ∈ js, 0 < j ∧ j < 16) (h : WpR W0 mb kind cs w) (hp : Ptrs mb w a js) (hma : mb ≠ a) :
    Calls Tryd.prog 110 #[.agg #[], .slice (some ⟨a, 0, none⟩) js.length js.length] w fun e w' => e = .returned (.tuple #[]) ∧ WpR W0 mb kind (js.foldl (fun c j => c.setIfInBounds j (.int .i64 0)) cs) w' := by
  obtain ⟨n, hnn⟩ : ∃ n, n = js.length := ⟨_, rfl⟩
  rw [← hnn] at hn ⊢
  obtain ⟨V, hV⟩ : ∃ V, V = w.alloc (.cells #[] 128) := ⟨_, rfl⟩
  have hbV : Below w.heap.size w V := by rw [hV]; exact (Below.refl _ w).alloc (Nat.le_refl _) _
  have h1 : WpR W0 mb kind cs V := h.below hbV
  have hp1 : ∀ i (h : i < js.length), V.cell? ⟨a, i, none⟩ = some (.pointer (some ⟨mb, js[i], none⟩)) := fun i hi => (hbV.cell (p := ⟨a, i, none⟩) hp.1).trans (hp.2.1 i hi)
  have HV := Lib.hid hV
  have H1 := Lib.hid h1
  have HP := Lib.hid hp1
  have HJ := Lib.hid hj
  have HN := Lib.hid hnn
  have HMA := Lib.hid hma
  clear hV h1 hp1 hj h hp hbV hnn hma
  go_enter Tryd.func110, Tryd.ntmps110
  go_upto_region 1 with fail
  rw [← HV.out]
  go_wp2_with fail
  go_loopw [8] (fun i wr => ∃ k : Nat, i = .int .i64 k ∧ k ≤ n ∧ WpR W0 mb kind ((js.take k).foldl (fun c j => c.setIfInBounds j (.int .i64 0)) cs) wr ∧ ∀ i, wr.cell? ⟨a, i, none⟩ = V.cell? ⟨a, i, none⟩) (fun i _ => n - (intOf i).toNat)
  case atStart => exact ⟨0, rfl, Nat.zero_le _, H1.out, fun _ => rfl⟩
  case round =>
    obtain ⟨k, rfl, hk, hw, hc⟩ := hrel
    have HW := Lib.hid hw
    have HC := Lib.hid hc
    clear hw hc
    by_cases hlt : k < n
    · have hlt2 : (k : Int) < (n : Int) := by omega
      have hks : k < js.length := by rw [← HN.out]; exact hlt
      have hjk := HJ.out _ (List.getElem_mem hks)
      have c1 := (HC.out k).trans (HP.out k hks)
      have HF := Lib.hid (fold_take js cs k hks)
      obtain ⟨j, hjj⟩ : ∃ j, j = js[k] := ⟨_, rfl⟩
      rw [← hjj] at c1 hjk HF
      obtain ⟨u, c0, -⟩ := HW.out.cell j hjk.2
      have hfz : wr.frozen? ⟨mb, j, none⟩ = false := Gn.frozen_row HW.out.1 _
      clear hjj
      go_wp2
      refine ⟨⟨k + 1, by go_num, by omega, by rw [HF.out]; exact HW.out.set j hjk.1 _, fun i => ?_⟩, by simp [intOf]; omega⟩
      refine Eq.trans ?_ (HC.out i)
      exact Gn.cell_same (Gn.set_keep _ _ _ HMA.out) i
    · have hke : k = n := by omega
      subst hke
      have HF := Lib.hid (show js.take k = js by rw [HN.out]; exact List.take_length)
      go_wp2
      go_end0
      refine ⟨rfl, ?_⟩
      have := HW.out
      rwa [HF.out] at this
theorem wip_mN (args : Array Value) (w : World) : (callMethod (.iface 128 (.agg #[])) "primer/message.numbers" args).run Tryd.prog w = .ok (.enter 110 (#[.agg #[]] ++ args)) w := by kernel_rfl
theorem wip_zN (w : World) : (nilAhead (Tryd.prog.types.size + Made.depth) 128 (.agg #[]) "primer/message.numbers").run Tryd.prog w = .ok (some false) w := by kernel_rfl
theorem wip_mK (args : Array Value) (w : World) : (callMethod (.iface 128 (.agg #[])) "primer/message.known" args).run Tryd.prog w = .ok (.enter 109 (#[.agg #[]] ++ args)) w := by kernel_rfl
theorem wip_zK (w : World) : (nilAhead (Tryd.prog.types.size + Made.depth) 128 (.agg #[]) "primer/message.known").run Tryd.prog w = .ok (some false) w := by kernel_rfl
theorem wip_mT (args : Array Value) (w : World) : (callMethod (.iface 128 (.agg #[])) "primer/message.text" args).run Tryd.prog w = .ok (.enter 111 (#[.agg #[]] ++ args)) w := by kernel_rfl
theorem wip_zT (w : World) : (nilAhead (Tryd.prog.types.size + Made.depth) 128 (.agg #[]) "primer/message.text").run Tryd.prog w = .ok (some false) w := by kernel_rfl
theorem wip_mY (args : Array Value) (w : World) : (callMethod (.iface 128 (.agg #[])) "primer/message.yes" args).run Tryd.prog w = .ok (.enter 112 (#[.agg #[]] ++ args)) w := by kernel_rfl
theorem wip_zY (w : World) : (nilAhead (Tryd.prog.types.size + Made.depth) 128 (.agg #[]) "primer/message.yes").run Tryd.prog w = .ok (some false) w := by kernel_rfl
theorem wip_mE (args : Array Value) (w : World) : (callMethod (.iface 128 (.agg #[])) "primer/message.entry" args).run Tryd.prog w = .ok (.enter 108 (#[.agg #[]] ++ args)) w := by kernel_rfl
theorem wip_zE (w : World) : (nilAhead (Tryd.prog.types.size + Made.depth) 128 (.agg #[]) "primer/message.entry").run Tryd.prog w = .ok (some false) w := by kernel_rfl
theorem wip_mM (args : Array Value) (w : World) : (callMethod (.iface 128 (.agg #[])) "primer/message.entries" args).run Tryd.prog w = .ok (.enter 107 (#[.agg #[]] ++ args)) w := by kernel_rfl
theorem wip_zM (w : World) : (nilAhead (Tryd.prog.types.size + Made.depth) 128 (.agg #[]) "primer/message.entries").run Tryd.prog w = .ok (some false) w := by kernel_rfl
theorem wip_ok (W0 : World) (mb : Nat) (kind : Int) (full : Bool) : VisOk (wipV W0 mb kind full) where
  mN := fun args w => wip_mN args w
  zN := fun w => wip_zN w
  mK := fun args w => wip_mK args w
  zK := fun w => wip_zK w
  mT := fun args w => wip_mT args w
  zT := fun w => wip_zT w
  mY := fun args w => wip_mY args w
  zY := fun w => wip_zY w
  mE := fun args w => wip_mE args w
  zE := fun w => wip_zE w
  mM := fun args w => wip_mM args w
  zM := fun w => wip_zM w
  kd := fun s w h => (cell_of_row _ _ 0 _ _ (0, 0) h.1).trans h.2.2.2.2
  dn := fun s w w' h b => WpR.below h b
  cN := fun s w a js h hp hq => wnums W0 mb kind s w a js hp.1 hp.2.2 h hq (fun e => by
    have c1 := (cell_of_row _ _ 0 _ _ (0, 0) h.1).trans h.2.2.2.2
    have c2 := hq.2.1 0 hp.2.1
    rw [← e] at c2
    rw [c1] at c2
    cases c2)
  cK := fun s w h _ => wknown W0 mb kind s w h
  cT := fun s w j h hp => wtext W0 mb kind s w j hp h
  cY := fun s w h hp => wyes W0 mb kind full s w hp h
  cE := fun s w h _ => wentry W0 mb kind s w h
  cM := fun s w h _ => wentries W0 mb kind s w h
end Go.Proofs.YtgbpofgmomglfaaDoor.Ms
