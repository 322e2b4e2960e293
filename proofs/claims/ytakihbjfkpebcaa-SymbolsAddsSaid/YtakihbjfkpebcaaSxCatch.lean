/-
  The call that parse defers: it catches a fault that is thrown.
-/
import Derived.Test.YtakihbjfkpebcaaSxGram
import Derived.Recover
import Derived.Defers
import Derived.RegionTactic
namespace Go.Proofs.Ytakihbjfkpebcaa.Sx
open Go.RowKit
set_option maxRecDepth 100000

theorem bodyS_of {P : Program} {fn : Func} {c₀ : Frame} {cs : List Frame} {R : Ending → FrameMode → World → Prop} (u : FrameMode) : ∀ (e : Exit) (a : Act) (w : World), bodyPost P fn (fun e w => R e u w) e a w → bodyPostS P fn c₀ cs R e a ({ c₀ with mode := u } :: cs) w := by
  intro e a w h
  cases e with
  | normal => obtain ⟨h1, v, h2, h3⟩ := h; exact ⟨h1, u, rfl, v, h2, h3⟩
  | ret => obtain ⟨h1, v, h2, h3⟩ := h; exact ⟨h1, u, rfl, v, h2, h3⟩
  | panic c => obtain ⟨h1, h3⟩ := h; exact ⟨h1, u, rfl, h3⟩
  | outgrown => exact ⟨u, h⟩
  | exit i => exact h.elim
  | goto l => exact h.elim
theorem bodyS_same {P : Program} {fn : Func} {c₀ : Frame} {cs : List Frame} {R : Ending → FrameMode → World → Prop} {u : FrameMode} (hu : c₀.mode = u) : ∀ (e : Exit) (a : Act) (w : World), bodyPost P fn (fun e w => R e u w) e a w → bodyPostS P fn c₀ cs R e a (c₀ :: cs) w := by
  intro e a w h
  have := bodyS_of (c₀ := c₀) (cs := cs) u e a w h
  have hc : ({ c₀ with mode := u } : Frame) = c₀ := by subst hu; rfl
  rw [hc] at this
  exact this

def Idle (w : World) (e : Ending) (u' : FrameMode) (w' : World) : Prop := e = .returned (.tuple #[]) ∧ u' = .returning ∧ w' = w
/-- Five cells stored. -/
theorem five_cells {W : World} {g k : Nat} {cs ds : Array Value} {t u : TypeId} (hg : W.heap[g]? = some (.cells cs t (0, 0))) (hk : W.heap[k]? = some (.cells ds u (0, 0))) (hgk : g ≠ k) (a b x y z : Value) :
    (((((W.setCell ⟨g, 0, none⟩ a).setCell ⟨g, 1, none⟩ b).setCell ⟨k, 0, none⟩ x).setCell ⟨k, 1, none⟩ y).setCell ⟨k, 2, none⟩ z).heap[g]? = some (.cells ((cs.setIfInBounds 0 a).setIfInBounds 1 b) t (0, 0)) ∧
    (((((W.setCell ⟨g, 0, none⟩ a).setCell ⟨g, 1, none⟩ b).setCell ⟨k, 0, none⟩ x).setCell ⟨k, 1, none⟩ y).setCell ⟨k, 2, none⟩ z).heap[k]? = some (.cells (((ds.setIfInBounds 0 x).setIfInBounds 1 y).setIfInBounds 2 z) u (0, 0)) ∧
    (((((W.setCell ⟨g, 0, none⟩ a).setCell ⟨g, 1, none⟩ b).setCell ⟨k, 0, none⟩ x).setCell ⟨k, 1, none⟩ y).setCell ⟨k, 2, none⟩ z).heap.size = W.heap.size ∧
    (((((W.setCell ⟨g, 0, none⟩ a).setCell ⟨g, 1, none⟩ b).setCell ⟨k, 0, none⟩ x).setCell ⟨k, 1, none⟩ y).setCell ⟨k, 2, none⟩ z).os = W.os ∧ (((((W.setCell ⟨g, 0, none⟩ a).setCell ⟨g, 1, none⟩ b).setCell ⟨k, 0, none⟩ x).setCell ⟨k, 1, none⟩ y).setCell ⟨k, 2, none⟩ z).tape = W.tape ∧ (((((W.setCell ⟨g, 0, none⟩ a).setCell ⟨g, 1, none⟩ b).setCell ⟨k, 0, none⟩ x).setCell ⟨k, 1, none⟩ y).setCell ⟨k, 2, none⟩ z).output = W.output ∧
    ∀ q, q ≠ g → q ≠ k → (((((W.setCell ⟨g, 0, none⟩ a).setCell ⟨g, 1, none⟩ b).setCell ⟨k, 0, none⟩ x).setCell ⟨k, 1, none⟩ y).setCell ⟨k, 2, none⟩ z).heap[q]? = W.heap[q]? := by
  have hkg : k ≠ g := fun h => hgk h.symm
  refine ⟨?_, ?_, by simp [World.setCell], by simp [World.setCell], by simp [World.setCell], by simp [World.setCell], fun q h1 h2 => ?_⟩
  · exact ((Lx.set_keep _ 2 _ hkg).trans (Lx.set_keep _ 1 _ hkg)).trans ((Lx.set_keep _ 0 _ hkg).trans (Lx.heap_set (Lx.heap_set hg 0 a) 1 b))
  · exact Lx.heap_set (Lx.heap_set (Lx.heap_set ((Lx.set_keep _ 1 _ hgk).trans ((Lx.set_keep _ 0 _ hgk).trans hk)) 0 x) 1 y) 2 z
  · exact ((Lx.set_keep _ 2 _ (fun h => h2 h.symm)).trans (Lx.set_keep _ 1 _ (fun h => h2 h.symm))).trans ((Lx.set_keep _ 0 _ (fun h => h2 h.symm)).trans ((Lx.set_keep _ 1 _ (fun h => h1 h.symm)).trans (Lx.set_keep _ 0 _ (fun h => h1 h.symm))))

theorem catch_idle (p q : Addr) (w : World) :
    CallsD Try.prog 50 #[.pointer (some p), .pointer (some q)] .returning w (Idle w) := by
  refine callsD_of_wpS Try.func50 rfl fun c₀ cs hu => ?_
  apply wpS_seq
  apply wpS_region
  simp [wpOpsS, go_sem, recoverD, hu, Try.ntmps50, Exit.thenS]
  refine wpS_of_wp (Code.wp_mono (bodyS_same hu) ?_)
  clear hu
  rw [show (#[Value.pointer (some p), Value.pointer (some q)] ++ ((Array.replicate 16 undef).setIfInBounds 3 Value.nilIface).setIfInBounds 0 Value.nilIface) = #[Value.pointer (some p), Value.pointer (some q), .nilIface, undef, undef, .nilIface, undef, undef, undef, undef, undef, undef, undef, undef, undef, undef, undef, undef] from rfl]
  go_wp2
  exact bodyPost_ret (results_none rfl _ _ _) rfl ⟨rfl, rfl, rfl⟩

theorem assert_fault (W : World) (v : Value) : (Instr.typeAssert (.iface 67 v) 20 67 true).run Try.prog W = .ok (.tuple #[v, .bool true]) W := by kernel_rfl

/-- What the deferred call leaves of a fault: the grammar is none, the fault is told. -/
def Caught (g k : Nat) (l c e : Nat) (w : World) (en : Ending) (u' : FrameMode) (w' : World) : Prop :=
  en = .returned (.tuple #[]) ∧ u' = .panicking [{ v := .iface 67 (.agg #[.int .i64 l, .int .i64 c, .int .i64 e]), recovered := true }] ∧
    w'.heap[g]? = some (.cells #[.string ⟨#[]⟩, .slice none 0 0] 25 (0, 0)) ∧ w'.heap[k]? = some (.cells #[.int .i64 l, .int .i64 c, .int .i64 e] 67 (0, 0)) ∧
    w'.os = w.os ∧ w'.tape = w.tape ∧ w'.output = w.output ∧ w.heap.size ≤ w'.heap.size ∧ ∀ b, b < w.heap.size → b ≠ g → b ≠ k → w'.heap[b]? = w.heap[b]?

theorem caught_of {g k : Nat} {l c e : Nat} {w w' : World} {u' : FrameMode} (hu : u' = .panicking [{ v := .iface 67 (.agg #[.int .i64 l, .int .i64 c, .int .i64 e]), recovered := true }])
    (h1 : w'.heap[g]? = some (.cells #[.string ⟨#[]⟩, .slice none 0 0] 25 (0, 0))) (h2 : w'.heap[k]? = some (.cells #[.int .i64 l, .int .i64 c, .int .i64 e] 67 (0, 0)))
    (h3 : w'.os = w.os) (h4 : w'.tape = w.tape) (h5 : w'.output = w.output) (h6 : w.heap.size ≤ w'.heap.size) (h7 : ∀ b, b < w.heap.size → b ≠ g → b ≠ k → w'.heap[b]? = w.heap[b]?) : Caught g k l c e w (.returned (.tuple #[])) u' w' :=
  ⟨rfl, hu, h1, h2, h3, h4, h5, h6, h7⟩
theorem caught_drew {g k l c e : Nat} {w w' : World} {en : Ending} {u' : FrameMode} (h : Caught g k l c e w en u' w') : Caught g k l c e w en u' w'.drew := by
  obtain ⟨h1, h2, h3, h4, h5, h6, h7, h8, h9⟩ := h
  exact ⟨h1, h2, h3, h4, h5, h6, h7, h8, h9⟩
set_option maxHeartbeats 1000000 in
theorem catch_fault (g k : Nat) (l c e : Nat) (w : World) (hg : w.heap[g]? = some (.cells #[.string ⟨#[]⟩, .slice none 0 0] 25 (0, 0))) (hk : w.heap[k]? = some (.cells #[.int .i64 0, .int .i64 0, .int .i64 0] 67 (0, 0))) (hgk : g ≠ k) :
    CallsD Try.prog 50 #[.pointer (some ⟨g, 0, none⟩), .pointer (some ⟨k, 0, none⟩)] (.panicking [{ v := .iface 67 (.agg #[.int .i64 l, .int .i64 c, .int .i64 e]), recovered := false }]) w (Caught g k l c e w) := by
  refine callsD_of_wpS Try.func50 rfl fun c₀ cs hu => ?_
  apply wpS_seq
  apply wpS_region
  simp [wpOpsS, go_sem, recoverD, hu, Try.ntmps50, Exit.thenS]
  refine wpS_of_wp (Code.wp_mono (bodyS_of _) ?_)
  rw [show (#[Value.pointer (some ⟨g, 0, none⟩), Value.pointer (some ⟨k, 0, none⟩)] ++ ((Array.replicate 16 undef).setIfInBounds 3 (.iface 67 (.agg #[.int .i64 l, .int .i64 c, .int .i64 e]))).setIfInBounds 0 (.iface 67 (.agg #[.int .i64 l, .int .i64 c, .int .i64 e]))) = #[Value.pointer (some ⟨g, 0, none⟩), Value.pointer (some ⟨k, 0, none⟩), .iface 67 (.agg #[.int .i64 l, .int .i64 c, .int .i64 e]), undef, undef, .iface 67 (.agg #[.int .i64 l, .int .i64 c, .int .i64 e]), undef, undef, undef, undef, undef, undef, undef, undef, undef, undef, undef, undef] from rfl]
  have hg0 : w.cell? ⟨g, 0, none⟩ = some (.string ⟨#[]⟩) := cell_of_row _ _ 0 _ _ (0, 0) hg
  have hg1 : w.cell? ⟨g, 1, none⟩ = some (.slice none 0 0) := cell_of_row _ _ 1 _ _ (0, 0) hg
  have hgf := frozen_row hg
  have hk0 : w.cell? ⟨k, 0, none⟩ = some (.int .i64 0) := cell_of_row _ _ 0 _ _ (0, 0) hk
  have hk1 : w.cell? ⟨k, 1, none⟩ = some (.int .i64 0) := cell_of_row _ _ 1 _ _ (0, 0) hk
  have hk2 : w.cell? ⟨k, 2, none⟩ = some (.int .i64 0) := cell_of_row _ _ 2 _ _ (0, 0) hk
  have hkf := frozen_row hk
  have hgl := Lx.heap_lt hg
  have hkl := Lx.heap_lt hk
  have HG := Lib.hid hg
  have HK := Lib.hid hk
  have HN := Lib.hid hgk
  have has := assert_fault
  clear hu hg hk hgk
  go_wp2
  have hb : Below w.heap.size w (w.alloc (.cells #[.int .i64 l, .int .i64 c, .int .i64 e] 67)) := (Below.refl _ _).alloc (Nat.le_refl _) _
  have hn := heap_alloc_new w (.cells #[.int .i64 l, .int .i64 c, .int .i64 e] 67)
  have n0 : (w.alloc (.cells #[.int .i64 l, .int .i64 c, .int .i64 e] 67)).cell? ⟨w.heap.size, 0, none⟩ = some (.int .i64 l) := cell_of_row _ _ 0 _ _ (0, 0) hn
  have n1 : (w.alloc (.cells #[.int .i64 l, .int .i64 c, .int .i64 e] 67)).cell? ⟨w.heap.size, 1, none⟩ = some (.int .i64 c) := cell_of_row _ _ 1 _ _ (0, 0) hn
  have n2 : (w.alloc (.cells #[.int .i64 l, .int .i64 c, .int .i64 e] 67)).cell? ⟨w.heap.size, 2, none⟩ = some (.int .i64 e) := cell_of_row _ _ 2 _ _ (0, 0) hn
  have m0 := (hb.cell (p := ⟨g, 0, none⟩) hgl).trans hg0
  have m1 := (hb.cell (p := ⟨g, 1, none⟩) hgl).trans hg1
  have q0 := (hb.cell (p := ⟨k, 0, none⟩) hkl).trans hk0
  have q1 := (hb.cell (p := ⟨k, 1, none⟩) hkl).trans hk1
  have q2 := (hb.cell (p := ⟨k, 2, none⟩) hkl).trans hk2
  have HG2 := Lib.hid ((hb.block g hgl).trans HG.out)
  have HK2 := Lib.hid ((hb.block k hkl).trans HK.out)
  have mf := frozen_row HG2.out
  have qf := frozen_row HK2.out
  have HB := Lib.hid hb
  generalize hW : World.alloc w _ = W
  rw [hW] at n0 n1 n2 m0 m1 q0 q1 q2 HG2 HK2 mf qf HB
  have hgn : w.heap.size ≠ g := by omega
  have hkn : w.heap.size ≠ k := by omega
  have hgn2 : g ≠ w.heap.size := by omega
  have hkn2 : k ≠ w.heap.size := by omega
  have hgk := HN.out
  clear hW hb hn hg0 hg1 hgf hk0 hk1 hk2 hkf has
  go_region
  all_goals
    obtain ⟨f1, f2, f3, e1, e2, e3, f4⟩ := five_cells HG2.out HK2.out HN.out (.string ⟨#[]⟩) (.slice none 0 0) (.int .i64 l) (.int .i64 c) (.int .i64 e)
    have hsz := HB.out.size
    have hfin := caught_of (u' := .panicking [{ v := .iface 67 (.agg #[.int .i64 l, .int .i64 c, .int .i64 e]), recovered := true }]) rfl f1 f2 (e1.trans HB.out.os) (e2.trans HB.out.tape) (e3.trans HB.out.output) (Nat.le_trans hsz (Nat.le_of_eq f3.symm)) fun b hb1 hb2 hb3 => (f4 b hb2 hb3).trans (HB.out.block b hb1)
    clear f1 f2 f3 f4 e1 e2 e3
    exact bodyPost_end (results_none rfl _ _ _) rfl (caught_drew hfin)
end Go.Proofs.Ytakihbjfkpebcaa.Sx
