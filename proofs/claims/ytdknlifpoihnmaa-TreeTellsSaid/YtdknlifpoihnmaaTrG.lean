/-
  Layer 14: read, with the call that it defers; Get.
-/
import Derived.Test.YtdknlifpoihnmaaTrF
import Derived.Recover
import Derived.Defers
import Derived.RegionTactic
namespace Go.Proofs.Ytdknlifpoihnmaa.Tr
open Go.RowKit
open Gn (Asks Sep)
open Oct (gb bs three get_any)
open Fx (IntsAt StrsAt Prd PG PrdsAt PgAt PgBox soundB sound_any)
set_option maxRecDepth 100000
set_option linter.unusedSimpArgs false
set_option linter.unusedVariables false

theorem bodyS_of {P : Program} {fn : Func} {c₀ : Frame} {cs : List Frame} {R : Ending → FrameMode → World → Prop} (u : FrameMode) : ∀ (e : Exit) (a : Act) (w : World), bodyPost P fn (fun e w => R e u w) e a w → bodyPostS P fn c₀ cs R e a ({ c₀ with mode := u } :: cs) w := by
  intro e a w h
  cases e with
  | normal => obtain ⟨h1, v, h2, h3⟩ := h; exact ⟨h1, u, rfl, v, h2, h3⟩
  | ret => obtain ⟨h1, v, h2, h3⟩ := h; exact ⟨h1, u, rfl, v, h2, h3⟩
  | panic c => obtain ⟨h1, h3⟩ := h; exact ⟨h1, u, rfl, h3⟩
  | outgrown => exact ⟨u, h⟩
  | exit i => exact h.elim
  | goto l => exact h.elim
theorem bodyS_same {P : Program} {fn : Func} {c₀ : Frame} {cs : List Frame} {R : Ending → FrameMode → World → Prop} {u : FrameMode} (hu : c₀.mode = u) : ∀ (e : Exit) (a : Act) (w : World), bodyPost P fn (fun e w => R e u w) e a w → bodyPostS P fn c₀ cs R e a (c₀ :: cs) w := by
  intro e a w h
  have := bodyS_of (c₀ := c₀) (cs := cs) u e a w h
  have hc : ({ c₀ with mode := u } : Frame) = c₀ := by subst hu; rfl
  rw [hc] at this
  exact this
def Idle (w : World) (e : Ending) (u' : FrameMode) (w' : World) : Prop := e = .returned (.tuple #[]) ∧ u' = .returning ∧ w' = w
theorem catch_idle (p q : Addr) (w : World) :
    CallsD Try.prog 69 #[.pointer (some p), .pointer (some q)] .returning w (Idle w) := by
  refine callsD_of_wpS Try.func69 rfl fun c₀ cs hu => ?_
  apply wpS_seq
  apply wpS_region
  simp [wpOpsS, go_sem, recoverD, hu, Try.ntmps69, Exit.thenS]
  refine wpS_of_wp (Code.wp_mono (bodyS_same hu) ?_)
  clear hu
  rw [show (#[Value.pointer (some p), Value.pointer (some q)] ++ ((Array.replicate 16 undef).setIfInBounds 3 Value.nilIface).setIfInBounds 0 Value.nilIface) = #[Value.pointer (some p), Value.pointer (some q), .nilIface, undef, undef, .nilIface, undef, undef, undef, undef, undef, undef, undef, undef, undef, undef, undef, undef] from rfl]
  go_wp2
  exact bodyPost_ret (results_none rfl _ _ _) rfl ⟨rfl, rfl, rfl⟩

theorem assert_errno (W : World) (v : Value) : (Instr.typeAssert (.iface 60 v) 20 60 true).run Try.prog W = .ok (.tuple #[v, .bool true]) W := by kernel_rfl
theorem three_cells {W : World} {g k : Nat} {c0 c1 d0 : Value} {t u : TypeId} (hg : W.heap[g]? = some (.cells #[c0, c1] t (0, 0))) (hk : W.heap[k]? = some (.cells #[d0] u (0, 0))) (hgk : g ≠ k) (a b x : Value) :
    (((W.setCell ⟨g, 0, none⟩ a).setCell ⟨g, 1, none⟩ b).setCell ⟨k, 0, none⟩ x).heap[g]? = some (.cells #[a, b] t (0, 0)) ∧ (((W.setCell ⟨g, 0, none⟩ a).setCell ⟨g, 1, none⟩ b).setCell ⟨k, 0, none⟩ x).heap[k]? = some (.cells #[x] u (0, 0)) ∧
    (((W.setCell ⟨g, 0, none⟩ a).setCell ⟨g, 1, none⟩ b).setCell ⟨k, 0, none⟩ x).heap.size = W.heap.size ∧ ∀ q, q ≠ g → q ≠ k → (((W.setCell ⟨g, 0, none⟩ a).setCell ⟨g, 1, none⟩ b).setCell ⟨k, 0, none⟩ x).heap[q]? = W.heap[q]? := by
  have hkg : k ≠ g := fun h => hgk h.symm
  refine ⟨(Gn.set_keep _ 0 _ hkg).trans (Gn.heap_set (Gn.heap_set hg 0 a) 1 b), Gn.heap_set ((Gn.set_keep _ 1 _ hgk).trans ((Gn.set_keep _ 0 _ hgk).trans hk)) 0 x, by simp [World.setCell], fun q h1 h2 => ?_⟩
  exact (Gn.set_keep _ 0 _ (fun h => h2 h.symm)).trans ((Gn.set_keep _ 1 _ (fun h => h1 h.symm)).trans (Gn.set_keep _ 0 _ (fun h => h1 h.symm)))
def Caught (g k : Nat) (c : Nat) (w : World) (en : Ending) (u' : FrameMode) (w' : World) : Prop :=
  en = .returned (.tuple #[]) ∧ u' = .panicking [{ v := .iface 60 (.int .i64 c), recovered := true }] ∧
    w'.heap[g]? = some (.cells #[.int .i64 0, .slice none 0 0] 39 (0, 0)) ∧ w'.heap[k]? = some (.cells #[.int .i64 c] 60 (0, 0)) ∧
    w'.os = w.os ∧ w'.tape = w.tape ∧ w'.output = w.output ∧ w.heap.size ≤ w'.heap.size ∧ ∀ b, b < w.heap.size → b ≠ g → b ≠ k → w'.heap[b]? = w.heap[b]?
set_option maxHeartbeats 1000000 in
theorem catch_throw (g k : Nat) (c : Nat) (c0 c1 : Value) (w : World) (hg : w.heap[g]? = some (.cells #[c0, c1] 39 (0, 0))) (hk : w.heap[k]? = some (.cells #[.int .i64 0] 60 (0, 0))) (hgk : g ≠ k) :
    CallsD Try.prog 69 #[.pointer (some ⟨g, 0, none⟩), .pointer (some ⟨k, 0, none⟩)] (.panicking [{ v := .iface 60 (.int .i64 c), recovered := false }]) w (Caught g k c w) := by
  refine callsD_of_wpS Try.func69 rfl fun c₀ cs hu => ?_
  apply wpS_seq
  apply wpS_region
  simp [wpOpsS, go_sem, recoverD, hu, Try.ntmps69, Exit.thenS]
  refine wpS_of_wp (Code.wp_mono (bodyS_of _) ?_)
  rw [show (#[Value.pointer (some ⟨g, 0, none⟩), Value.pointer (some ⟨k, 0, none⟩)] ++ ((Array.replicate 16 undef).setIfInBounds 3 (.iface 60 (.int .i64 c))).setIfInBounds 0 (.iface 60 (.int .i64 c))) = #[Value.pointer (some ⟨g, 0, none⟩), Value.pointer (some ⟨k, 0, none⟩), .iface 60 (.int .i64 c), undef, undef, .iface 60 (.int .i64 c), undef, undef, undef, undef, undef, undef, undef, undef, undef, undef, undef, undef] from rfl]
  have hg0 := cell_of_row _ _ 0 _ _ (0, 0) hg
  have hg1 := cell_of_row _ _ 1 _ _ (0, 0) hg
  have gf0 := frozen_of_row w g 0 _ _ hg
  have gf1 := frozen_of_row w g 1 _ _ hg
  have hk0 := cell_of_row _ _ 0 _ _ (0, 0) hk
  have kf0 := frozen_of_row w k 0 _ _ hk
  obtain ⟨f1, f2, f3, f4⟩ := three_cells hg hk hgk (.int .i64 0) (.slice none 0 0) (.int .i64 c)
  have hfin : Caught g k c w (.returned (.tuple #[])) (.panicking [{ v := .iface 60 (.int .i64 c), recovered := true }]) (((w.setCell ⟨g, 0, none⟩ (.int .i64 0)).setCell ⟨g, 1, none⟩ (.slice none 0 0)).setCell ⟨k, 0, none⟩ (.int .i64 c)) :=
    ⟨rfl, rfl, f1, f2, rfl, rfl, rfl, Nat.le_of_eq f3.symm, fun b hb hb1 hb2 => f4 b hb1 hb2⟩
  have HFIN := Lib.hid hfin
  have has := assert_errno
  have hkg : k ≠ g := fun h => hgk h.symm
  clear hu hg hk f1 f2 f3 f4 hfin
  go_wp2
  exact bodyPost_end (results_none rfl _ _ _) rfl HFIN.out

theorem run_loadVar_one {P : Program} (w : World) (g : Nat) (t ty : TypeId) (v : Value) (k : IntKind) (hg : w.heap[g]? = some (.cells #[v] t (0, 0))) (hu : P.underlying ty = some (.int k)) : (loadVar ty ⟨g, 0, none⟩).run P w = .ok v w := by
  have hagg : (isAgg ty).run P w = .ok false w := by
    unfold isAgg
    rw [Sem.run_bind, run_underlying hu w]
    rfl
  have hc : w.cell? ⟨g, 0, none⟩ = some v := cell_of_row w g 0 _ t (0, 0) hg
  simp [loadVar, Sem.run_bind, hagg, run_load, hc]
theorem results_cell_one {P : Program} {fn : Func} {p q : Tmp} {ty uy : TypeId} (h : fn.results = #[.cell p ty, .cell q uy]) (tmps : Array Value) (w : World) (g k : Nat) (t u : TypeId) (cs : Array Value) (v : Value) (fr : Nat × Nat) (d : TypeDesc) (ik : IntKind)
    (hp : tmps.getD p undef = .pointer (some ⟨g, 0, none⟩)) (hg : w.heap[g]? = some (.cells cs t fr)) (hu : P.underlying ty = some d) (hd : (match d with | .struct _ | .array _ _ => true | _ => false) = true) (hi : (P.info? ty).map (·.size) = some cs.size)
    (hq : tmps.getD q undef = .pointer (some ⟨k, 0, none⟩)) (hk : w.heap[k]? = some (.cells #[v] u (0, 0))) (hv : P.underlying uy = some (.int ik)) :
    (results fn tmps).run P w = .ok (.tuple #[.agg cs, v]) w := by
  have hp' : tmps[p]?.getD undef = .pointer (some ⟨g, 0, none⟩) := by simpa using hp
  have hq' : tmps[q]?.getD undef = .pointer (some ⟨k, 0, none⟩) := by simpa using hq
  simp [results, h, hp', hq', asAddr, run_loadVar_row w g t ty cs fr d hg hu hd hi, run_loadVar_one w k u uy v ik hk hv]
/-- The tree of bytes. -/
def getT (g : PG) (s : List UInt8) : Except Nat Tr := match treeR g 65537 none s 0 with
  | .error c => .error c
  | .ok (t, s', _) => if s' = [] then .ok t else .error 4
/-- A tree and no error, or none and an error. -/
def Got (lo : Nat) (R : Except Nat Tr) (e : Ending) (w' : World) : Prop :=
  match R with
  | .error c => e = .returned (.tuple #[.agg #[.int .i64 0, .slice none 0 0], .int .i64 c])
  | .ok t => ∃ x y, e = .returned (.tuple #[.agg #[x, y], .int .i64 0]) ∧ TrAt (fun r => lo ≤ r) w' t x y
theorem bs_nil (u : ByteArray) : bs u = [] ↔ u = ⟨#[]⟩ := by
  constructor
  · intro h
    have : u.data.toList = [] := h
    cases u with
    | mk d => simpa using this
  · intro h; rw [h]

set_option maxHeartbeats 8000000 in
theorem read_any (g : PG) (hf : Fit g) (hsd : ∀ n, (sideT g n).length ≤ 1099511627776) (Q : Nat → Prop) (W : World) (k : Nat) (An At_ Ap : Option Addr) (cn ct cp : Nat) (u : ByteArray) (hu : u.size ≤ 9223372036854775807) (h : RdAt Q W k g An At_ Ap cn ct cp u 0) (hold : ∀ r, Q r → r < W.heap.size) :
    Calls Try.prog 48 #[.pointer (some ⟨k, 0, none⟩)] W fun e w' => Got W.heap.size (getT g (bs u)) e w' ∧ Sep k W.heap.size W w' := by
  have hmf : ∀ (fn : Fn) (first cap : Array Value) (w : World), (Instr.makeFunc fn first cap).run Try.prog w = .ok (.func fn first cap) w := fun _ _ _ _ => rfl
  have hb1 := (Below.refl W.heap.size W).alloc (Nat.le_refl _) (.cells #[.int .i64 0, .slice none 0 0] 39)
  have hb2 := hb1.alloc (by simp) (.cells #[.int .i64 0] 60)
  have hx1 := (heap_alloc_old _ (.cells #[.int .i64 0] 60) (by simp)).trans (heap_alloc_new W (.cells #[.int .i64 0, .slice none 0 0] 39))
  have hx2 := heap_alloc_new (W.alloc (.cells #[.int .i64 0, .slice none 0 0] 39)) (.cells #[.int .i64 0] 60)
  rw [Gn.size_alloc'] at hx2
  obtain ⟨V, hV⟩ : ∃ V, V = (W.alloc (.cells #[.int .i64 0, .slice none 0 0] 39)).alloc (.cells #[.int .i64 0] 60) := ⟨_, rfl⟩
  have hVz : V.heap.size = W.heap.size + 2 := by rw [hV]; simp
  rw [← hV] at hb2 hx1 hx2
  have hkl := Gn.heap_lt h.box
  have HKL := Lib.hid hkl
  have HVZ := Lib.hid hVz
  have HX1 := Lib.hid hx1
  have HX2 := Lib.hid hx2
  have HB := Lib.hid hb2
  have HV := Lib.hid hV
  have HKT := Lib.hid (tree_any g hf hsd 65537 Q V k An At_ Ap cn ct cp u 0 hu (by omega) (by omega) (h.under hb2) (fun r hr => by have := hold r hr; omega) none (.func (.func 71) #[] #[]) rfl)
  unfold getT
  clear h hold hb1 hb2 hx1 hx2 hV hVz hkl
  cases hT : treeR g 65537 none (bs u) 0 with
  | error c =>
    rw [hT] at HKT
    simp only
    clear hT
    go_enter_defers Try.func48, Try.ntmps48
    go_upto_region 2 with fail
    rw [← HV.out]
    go_wp2_with fail
    refine HKT.out.mono ?_
    rintro e w1 ⟨he, hs1⟩
    unfold Threw at he
    subst he
    have HG1 := Lib.hid ((hs1.block _ (by have := HVZ.out; omega) (by have := HKL.out; omega)).trans HX1.out)
    have HK1 := Lib.hid ((hs1.block _ (by have := HVZ.out; omega) (by have := HKL.out; omega)).trans HX2.out)
    have HS1 := Lib.hid ((Sep.of_below (g := k) HB.out).trans (hs1.mono (by have := HVZ.out; omega)))
    clear hs1
    go_wp2
    refine leaves_cons (f := 69) (args := #[.pointer (some ⟨W.heap.size, 0, none⟩), .pointer (some ⟨W.heap.size + 1, 0, none⟩)]) (by simp) (by simp [go_sem]) ?_
    refine (catch_throw W.heap.size (W.heap.size + 1) c _ _ w1 HG1.out HK1.out (by omega)).mono ?_
    rintro e u' w2 ⟨rfl, rfl, c1, c2, c3, c4, c5, c6, c7⟩
    refine (show Leaves Try.prog Try.f48 _ _ [] .returning w2 from ⟨_, results_cell_one (P := Try.prog) rfl _ _ W.heap.size (W.heap.size + 1) 39 60 _ _ (0, 0) _ _ rfl c1 Try.underlying39 rfl rfl rfl c2 Try.underlying60, ?_⟩)
    have hs1z := HS1.out.size
    exact ⟨rfl, HS1.out.trans ⟨c3, c4, c5, c6, fun b hb hbk => c7 b (by omega) (by omega) (by omega)⟩⟩
  | ok p =>
    obtain ⟨t, s3, nd3⟩ := p
    rw [hT] at HKT
    simp only
    clear hT
    by_cases hs3 : s3 = []
    · rw [if_pos hs3]
      subst hs3
      go_enter_defers Try.func48, Try.ntmps48
      go_upto_region 2 with fail
      rw [← HV.out]
      go_wp2_with fail
      refine HKT.out.mono ?_
      rintro e w1 ⟨x, y, u3, rfl, htr, hbs, hus, hlt, hle, hrd, hs1⟩
      have hue : u3 = ⟨#[]⟩ := (bs_nil u3).1 hbs
      subst hue
      have hg1 := (hs1.block _ (by have := HVZ.out; omega) (by have := HKL.out; omega)).trans HX1.out
      have hk1 := (hs1.block _ (by have := HVZ.out; omega) (by have := HKL.out; omega)).trans HX2.out
      obtain ⟨kn, kA, km, kc, rfl, rfl⟩ := htr.form
      have z0 := cell_of_row _ _ 0 _ _ (0, 0) hg1
      have z1 := cell_of_row _ _ 1 _ _ (0, 0) hg1
      have zf0 := frozen_of_row w1 W.heap.size 0 _ _ hg1
      have zf1 := frozen_of_row w1 W.heap.size 1 _ _ hg1
      have k0 := cell_of_row _ _ 0 _ _ (0, 0) hk1
      have kf0 := frozen_of_row w1 (W.heap.size + 1) 0 _ _ hk1
      have c5 := cell_of_row _ _ 5 _ _ (0, 0) hrd.box
      have HS1 := Lib.hid ((Sep.of_below (g := k) HB.out).trans (hs1.mono (by have := HVZ.out; omega)))
      have HT1 := Lib.hid htr
      have HG1 := Lib.hid hg1
      have HK1 := Lib.hid hk1
      have hne1 : W.heap.size ≠ W.heap.size + 1 := by omega
      have hne2 : W.heap.size + 1 ≠ W.heap.size := by omega
      have hne3 : W.heap.size ≠ k := by have := HKL.out; omega
      have hne4 : k ≠ W.heap.size := by have := HKL.out; omega
      have hg2 := res_set hg1 (.int .i64 kn) (.slice kA km kc)
      have hk2 := (Gn.set_keep ((w1.setCell ⟨W.heap.size, 0, none⟩ (.int .i64 kn))) 1 (.slice kA km kc) hne1).trans ((Gn.set_keep w1 0 (.int .i64 kn) hne1).trans hk1)
      have hsz2 : ((w1.setCell ⟨W.heap.size, 0, none⟩ (.int .i64 kn)).setCell ⟨W.heap.size, 1, none⟩ (.slice kA km kc)).heap.size = w1.heap.size := by simp [World.setCell]
      have hoth : ∀ b, b ≠ W.heap.size → ((w1.setCell ⟨W.heap.size, 0, none⟩ (.int .i64 kn)).setCell ⟨W.heap.size, 1, none⟩ (.slice kA km kc)).heap[b]? = w1.heap[b]? := fun b hb => (Gn.set_keep _ 1 _ (fun h => hb h.symm)).trans (Gn.set_keep _ 0 _ (fun h => hb h.symm))
      obtain ⟨f1, f2, f3, f4⟩ := three_cells hg2 hk2 hne1 (.int .i64 kn) (.slice kA km kc) (.int .i64 0)
      have F1 := Lib.hid f1
      have F2 := Lib.hid f2
      have hsp1 := HS1.out
      have hszs := hs1.size
      have HFIN := Lib.hid (show ∀ w2, w2 = (((((w1.setCell ⟨W.heap.size, 0, none⟩ (.int .i64 kn)).setCell ⟨W.heap.size, 1, none⟩ (.slice kA km kc)).setCell ⟨W.heap.size, 0, none⟩ (.int .i64 kn)).setCell ⟨W.heap.size, 1, none⟩ (.slice kA km kc)).setCell ⟨W.heap.size + 1, 0, none⟩ (.int .i64 0)) → Got W.heap.size (.ok t) (.returned (.tuple #[.agg #[.int .i64 kn, .slice kA km kc], .int .i64 0])) w2 ∧ Sep k W.heap.size W w2 from fun w2 e => by
        subst e
        refine ⟨⟨_, _, rfl, htr.keep (by rw [f3, hsz2]; exact Nat.le_refl _) fun r hr _ => ⟨by have := HVZ.out; omega, fun j => Gn.cell_same ((f4 r (by have := HVZ.out; omega) (by have := HVZ.out; omega)).trans (hoth r (by have := HVZ.out; omega))) j⟩⟩, hsp1.trans ⟨rfl, rfl, rfl, by rw [f3, hsz2]; exact Nat.le_refl _, fun b hb hbk => (f4 b (by omega) (by omega)).trans (hoth b (by omega))⟩⟩)
      clear htr hrd hs1 hg1 hk1 hbs hg2 hk2 hsz2 hoth f1 f2 f3 f4 hsp1 hszs
      go_wp2
      refine leaves_cons (f := 69) (args := #[.pointer (some ⟨W.heap.size, 0, none⟩), .pointer (some ⟨W.heap.size + 1, 0, none⟩)]) (by simp) (by simp [go_sem]) ?_
      refine (catch_idle ⟨W.heap.size, 0, none⟩ ⟨W.heap.size + 1, 0, none⟩ _).mono ?_
      rintro e u' w2 ⟨rfl, rfl, hw⟩
      have g1 := F1.out
      have g2 := F2.out
      rw [← hw] at g1 g2
      refine (show Leaves Try.prog Try.f48 _ _ [] .returning w2 from ⟨_, results_cell_one (P := Try.prog) rfl _ _ W.heap.size (W.heap.size + 1) 39 60 _ _ (0, 0) _ _ rfl g1 Try.underlying39 rfl rfl rfl g2 Try.underlying60, ?_⟩)
      exact HFIN.out w2 hw
    · rw [if_neg hs3]
      go_enter_defers Try.func48, Try.ntmps48
      go_upto_region 2 with fail
      rw [← HV.out]
      go_wp2_with fail
      refine HKT.out.mono ?_
      rintro e w1 ⟨x, y, u3, rfl, htr, hbs, hus, hlt, hle, hrd, hs1⟩
      have hue : u3.toList ≠ [] := fun h => hs3 (by
        rw [← hbs]
        have h2 : u3.toList = u3.data.toList := Lib.toList_data u3
        rw [h2] at h
        exact h)
      have e1 : (u3.toList == []) = false := by rw [beq_eq_false_iff_ne]; exact hue
      have e2 : (u3.toList != []) = true := by rw [bne_iff_ne]; exact hue
      have e3 : u3.toList.isEmpty = false := by rw [List.isEmpty_eq_false_iff]; exact hue
      have hg1 := (hs1.block _ (by have := HVZ.out; omega) (by have := HKL.out; omega)).trans HX1.out
      have hk1 := (hs1.block _ (by have := HVZ.out; omega) (by have := HKL.out; omega)).trans HX2.out
      obtain ⟨kn, kA, km, kc, rfl, rfl⟩ := htr.form
      have z0 := cell_of_row _ _ 0 _ _ (0, 0) hg1
      have z1 := cell_of_row _ _ 1 _ _ (0, 0) hg1
      have zf0 := frozen_of_row w1 W.heap.size 0 _ _ hg1
      have zf1 := frozen_of_row w1 W.heap.size 1 _ _ hg1
      have c5 := cell_of_row _ _ 5 _ _ (0, 0) hrd.box
      have HS1 := Lib.hid ((Sep.of_below (g := k) HB.out).trans (hs1.mono (by have := HVZ.out; omega)))
      have hne1 : W.heap.size ≠ W.heap.size + 1 := by omega
      have hne2 : W.heap.size + 1 ≠ W.heap.size := by omega
      have hne3 : W.heap.size ≠ k := by have := HKL.out; omega
      have hne4 : k ≠ W.heap.size := by have := HKL.out; omega
      have hg2 := res_set hg1 (.int .i64 kn) (.slice kA km kc)
      have hk2 := (Gn.set_keep ((w1.setCell ⟨W.heap.size, 0, none⟩ (.int .i64 kn))) 1 (.slice kA km kc) hne1).trans ((Gn.set_keep w1 0 (.int .i64 kn) hne1).trans hk1)
      have hsz2 : ((w1.setCell ⟨W.heap.size, 0, none⟩ (.int .i64 kn)).setCell ⟨W.heap.size, 1, none⟩ (.slice kA km kc)).heap.size = w1.heap.size := by simp [World.setCell]
      have hoth : ∀ b, b ≠ W.heap.size → ((w1.setCell ⟨W.heap.size, 0, none⟩ (.int .i64 kn)).setCell ⟨W.heap.size, 1, none⟩ (.slice kA km kc)).heap[b]? = w1.heap[b]? := fun b hb => (Gn.set_keep _ 1 _ (fun h => hb h.symm)).trans (Gn.set_keep _ 0 _ (fun h => hb h.symm))
      have HG2 := Lib.hid hg2
      have HK2 := Lib.hid hk2
      have HSP := Lib.hid (show Sep k W.heap.size W ((w1.setCell ⟨W.heap.size, 0, none⟩ (.int .i64 kn)).setCell ⟨W.heap.size, 1, none⟩ (.slice kA km kc)) from (HS1.out.setCell (.inr (Nat.le_refl _)) _).setCell (.inr (Nat.le_refl _)) _)
      clear htr hrd hs1 hg1 hk1 hbs hg2 hk2 hsz2 hoth hue hs3
      go_wp2
      refine leaves_cons (f := 69) (args := #[.pointer (some ⟨W.heap.size, 0, none⟩), .pointer (some ⟨W.heap.size + 1, 0, none⟩)]) (by simp) (by simp [go_sem]) ?_
      refine (catch_throw W.heap.size (W.heap.size + 1) 4 _ _ _ HG2.out HK2.out (by omega)).mono ?_
      rintro e u' w2 ⟨rfl, rfl, c1, c2, c3, c4, c5, c6, c7⟩
      refine (show Leaves Try.prog Try.f48 _ _ [] .returning w2 from ⟨_, results_cell_one (P := Try.prog) rfl _ _ W.heap.size (W.heap.size + 1) 39 60 _ _ (0, 0) _ _ rfl c1 Try.underlying39 rfl rfl rfl c2 Try.underlying60, ?_⟩)
      have hs1z := HSP.out.size
      exact ⟨rfl, HSP.out.trans ⟨c3, c4, c5, c6, fun b hb hbk => c7 b (by omega) (by omega) (by omega)⟩⟩
end Go.Proofs.Ytdknlifpoihnmaa.Tr
