/-
  Layer 18: Member.
-/
import Derived.Test.YtnmhgjoofgmcgaaGreatRlEnrol
namespace Go.Proofs.YtnmhgjoofgmcgaaGreat.Rl
open Go.RowKit
open Fx (StrsAt)
set_option maxRecDepth 100000
set_option linter.unusedSimpArgs false
set_option linter.unusedVariables false
/-- The member of a name; nobody. -/
def findM (r : Rol) (nm : ByteArray) : Mem := if hasN r.names nm = true then r.ms.getD (plc r.names nm) ⟨⟨#[]⟩, 0, 0⟩ else ⟨⟨#[]⟩, 0, 0⟩
theorem plc_lt {r : Rol} {nm : ByteArray} (hs : Rising r.names) (h : hasN r.names nm = true) : plc r.names nm < r.ms.length := by
  obtain ⟨h1, _⟩ := (plc_mem r.names nm hs).2 (hasN_iff.1 h)
  simpa [Rol.names] using h1
set_option maxHeartbeats 8000000 in
theorem Member_any (r : Rol) (nm : ByteArray) (P : Nat → Prop) (W : World) (v : Value) (h : RlAt P W r v) (hs : Rising r.names) (hn : r.ms.length ≤ 4096) :
    Calls Tryz.prog 12 #[v, .string nm] W fun e w' => e = .returned (.tuple #[.agg #[.string (findM r nm).name, .int .i64 (findM r nm).role, .int .i64 (findM r nm).quota], .bool (hasN r.names nm)]) ∧ Below W.heap.size W w' := by
  obtain ⟨Am, cm, Ac, cc, rfl, hms, hcs⟩ := h.form
  obtain ⟨n, hnn⟩ : ∃ n, n = r.ms.length := ⟨_, rfl⟩
  obtain ⟨m, hmm⟩ : ∃ m, m = r.cs.length := ⟨_, rfl⟩
  rw [← hnn, ← hmm] at h ⊢
  rw [← hnn] at hms hn
  obtain ⟨V, hV⟩ : ∃ V, V = (W.alloc (.cells #[.slice Am n cm, .slice Ac m cc] 27)).alloc (.cells #[.string ⟨#[]⟩, .int .i64 0, .int .i64 0] 45) := ⟨_, rfl⟩
  have hb : Below W.heap.size W V := by rw [hV]; exact ((Below.refl _ W).alloc (Nat.le_refl _) _).alloc (by simp) _
  have hz : V.heap.size = W.heap.size + 1 + 1 := by rw [hV]; simp
  have hx0 : V.heap[W.heap.size]? = some (.cells #[.slice Am n cm, .slice Ac m cc] 27 (0, 0)) := by rw [hV]; exact (heap_alloc_old _ _ (by simp)).trans (heap_alloc_new W _)
  have hx1 : V.heap[W.heap.size + 1]? = some (.cells #[.string ⟨#[]⟩, .int .i64 0, .int .i64 0] 45 (0, 0)) := by
    rw [hV]; have := heap_alloc_new (W.alloc (.cells #[.slice Am n cm, .slice Ac m cc] 27)) (.cells #[.string ⟨#[]⟩, .int .i64 0, .int .i64 0] 45); simpa using this
  obtain ⟨k, hk⟩ : ∃ k, k = plc r.names nm := ⟨_, rfl⟩
  obtain ⟨fd, hfd⟩ : ∃ fd, fd = hasN r.names nm := ⟨_, rfl⟩
  obtain ⟨x, hx⟩ : ∃ x, x = findM r nm := ⟨_, rfl⟩
  have HMB := Lib.hid (member_any r nm P V (.agg #[.slice Am n cm, .slice Ac m cc]) (h.under hb) hs (by rw [← hnn]; omega))
  rw [← hk, ← hfd] at HMB
  rw [← hfd, ← hx]
  have hxk : fd = true → k < n ∧ ∀ hkl : k < r.ms.length, x = r.ms[k] := fun h1 => by
    rw [hfd] at h1
    have h2 := plc_lt hs h1
    rw [← hk] at h2
    refine ⟨by rw [hnn]; exact h2, fun hkl => ?_⟩
    rw [hx]
    unfold findM
    rw [if_pos h1, ← hk, List.getD_eq_getElem?_getD, List.getElem?_eq_getElem hkl]
    rfl
  have hx0' : fd = false → x = ⟨⟨#[]⟩, 0, 0⟩ := fun h1 => by
    rw [hx]
    unfold findM
    rw [← hfd, h1]
    rfl
  have HXK := Lib.hid hxk
  have HX0' := Lib.hid hx0'
  have HNN := Lib.hid hnn
  have HMS := Lib.hid (RowAt.under hms hb)
  have HV := Lib.hid hV
  have HB := Lib.hid hb
  have HX0 := Lib.hid hx0
  have HX1 := Lib.hid hx1
  have x0 := cell_of_row _ _ 0 _ _ (0, 0) hx0
  have x1 := cell_of_row _ _ 1 _ _ (0, 0) hx0
  clear hV hb hx0 hx1 hz h hnn hmm hk hfd hx hxk hx0' hms hcs hs
  go_enter Tryz.func12, Tryz.ntmps12
  go_upto_region 1 with fail
  rw [← HV.out]
  go_wp2_with fail
  refine HMB.out.mono ?_
  rintro e w2 ⟨rfl, hb2⟩
  have hy0 := (hb2.block _ (Gn.heap_lt HX0.out)).trans HX0.out
  have hy1 := (hb2.block _ (Gn.heap_lt HX1.out)).trans HX1.out
  have HY1 := Lib.hid hy1
  have HB2 := Lib.hid (HB.out.trans (hb2.mono HB.out.size))
  have HM2 := Lib.hid (HMS.out.under hb2)
  have r0 := cell_of_row _ _ 0 _ _ (0, 0) hy1
  have r1 := cell_of_row _ _ 1 _ _ (0, 0) hy1
  have r2 := cell_of_row _ _ 2 _ _ (0, 0) hy1
  have g0 := Gn.frozen_row hy1 0
  have g1 := Gn.frozen_row hy1 1
  have g2 := Gn.frozen_row hy1 2
  have y0 := cell_of_row _ _ 0 _ _ (0, 0) hy0
  have HRS := Lib.hid (fun a b c => Gn.heap_set (Gn.heap_set (Gn.heap_set hy1 0 a) 1 b) 2 c)
  have HBE := Lib.hid (fun a b c => ((HB2.out.setCell (p := ⟨W.heap.size + 1, 0, none⟩) (by simp) a).setCell (p := ⟨W.heap.size + 1, 1, none⟩) (by simp) b).setCell (p := ⟨W.heap.size + 1, 2, none⟩) (by simp) c)
  clear hb2 hy0 hy1 x0 x1
  cases fd with
  | false =>
    have hx := HX0'.out rfl
    subst hx
    clear HXK HX0'
    go_wp2_with fail
    refine bodyPost_ret (results_ct (P := Tryz.prog) rfl _ _ (W.heap.size + 1) 45 _ (0, 0) _ _ rfl rfl (HRS.out _ _ _) Tryz.underlying45 rfl (by kernel_rfl)) rfl ?_
    exact ⟨rfl, HBE.out _ _ _⟩
  | true =>
    obtain ⟨hkn, hxe⟩ := HXK.out rfl
    have hkl : k < r.ms.length := by rw [← HNN.out]; exact hkn
    have hkn2 : (k : Int) < (n : Int) := by omega
    obtain ⟨A5, c5, b5, h5, _, _, h5c, h5d⟩ := HM2.out
    rw [← HNN.out] at h5 h5c
    injection h5 with h5 _ h5k
    subst h5
    subst h5k
    obtain ⟨rfl, _, _⟩ := h5c (by omega)
    have k0 := h5d k hkl 0 _ rfl
    have k1 := h5d k hkl 1 _ rfl
    have k2 := h5d k hkl 2 _ rfl
    rw [← hxe hkl] at k0 k1 k2
    rw [Nat.add_zero] at k0
    obtain ⟨x1, x2, x3⟩ := x
    dsimp only at k0 k1 k2 ⊢
    clear HXK HX0' h5c h5d hxe hkl
    go_wp2_with fail
    refine bodyPost_ret (results_ct (P := Tryz.prog) rfl _ _ (W.heap.size + 1) 45 _ (0, 0) _ _ rfl rfl (HRS.out _ _ _) Tryz.underlying45 rfl (by kernel_rfl)) rfl ?_
    exact ⟨rfl, HBE.out _ _ _⟩
end Go.Proofs.YtnmhgjoofgmcgaaGreat.Rl
