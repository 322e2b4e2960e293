/-
  Layer 14: the walk of the law's grown.
-/
import Derived.Test.YtjlppffkacimoaaTrGr
namespace Go.Proofs.Ytjlppffkacimoaa.Tr
open Go.RowKit
open Gn (Asks Sep)
open Fx (IntsAt StrsAt Prd PG PrdsAt PgAt own_of_block own_base)
set_option maxRecDepth 100000
set_option linter.unusedSimpArgs false
set_option linter.unusedVariables false

theorem results_cell_tmp {P : Program} {fn : Func} {p q : Tmp} {uy : TypeId} (h : fn.results = #[.cell q uy, .tmp p]) (tmps : Array Value) (w : World) (k : Nat) (u : TypeId) (ds : Array Value) (fs : Nat × Nat) (e : TypeDesc) (v : Value)
    (hp : tmps.getD p undef = v) (hq : tmps.getD q undef = .pointer (some ⟨k, 0, none⟩)) (hk : w.heap[k]? = some (.cells ds u fs)) (hv : P.underlying uy = some e) (he : (match e with | .struct _ | .array _ _ => true | _ => false) = true) (hj : (P.info? uy).map (·.size) = some ds.size) :
    (results fn tmps).run P w = .ok (.tuple #[.agg ds, v]) w := by
  have hp' : tmps[p]?.getD undef = v := by simpa using hp
  have hq' : tmps[q]?.getD undef = .pointer (some ⟨k, 0, none⟩) := by simpa using hq
  simp [results, h, hp', hq', asAddr, run_loadVar_row w k u uy ds fs e hk hv he hj]
/-- The choices, in a block below b. -/
def ChAt (b : Nat) (W : World) (cs : List Int) (v : Value) : Prop :=
  ∃ (A : Option Addr) (cap q off : Nat), v = .slice A cs.length cap ∧ (0 < cs.length → A = some ⟨q, off, none⟩ ∧ q < b) ∧ ∀ (i : Nat) (h : i < cs.length), W.cell? ⟨q, off + i, none⟩ = some (.int .i64 cs[i])
theorem ChAt.sep {b : Nat} {W W' : World} {cs : List Int} {v : Value} (h : ChAt b W cs v) (hk : ∀ k, k < b → W'.heap[k]? = W.heap[k]?) : ChAt b W' cs v := by
  obtain ⟨A, cap, q, off, h1, h2, h3⟩ := h
  exact ⟨A, cap, q, off, h1, h2, fun i hi => (Gn.cell_same (hk q (h2 (by omega)).2) _).trans (h3 i hi)⟩
/-- What grown leaves. -/
def GwOut (W : World) (ab : Nat) (R : Option (Tr × Nat)) (e : Ending) (w' : World) : Prop := Sep ab W.heap.size W w' ∧
  match R with
  | none => ∃ (n : Int) (A : Option Addr) (m c : Nat), e = .returned (.tuple #[.agg #[.int .i64 n, .slice A m c], .bool false])
  | some (t, k') => ∃ x y, e = .returned (.tuple #[.agg #[x, y], .bool true]) ∧ TrAt (fun r => W.heap.size ≤ r) w' t x y ∧ w'.heap[ab]? = some (.cells #[.int .i64 (k' : Nat)] 3 (0, 0))
def GwCtr (g : PG) (cs : List Int) (f : Nat) : Prop := ∀ (W : World) (ab k : Nat) (s : Int) (v u : Value), PgAt (fun r => r < ab) W g v → ChAt ab W cs u → W.heap[ab]? = some (.cells #[.int .i64 (k : Nat)] 3 (0, 0)) → -(g.terms.length : Int) ≤ s → k ≤ 61 → 62 ≤ f + k →
  Calls Try.prog 31 #[v, .int .i64 s, u, .pointer (some ⟨ab, 0, none⟩)] W (GwOut W ab (grownT g cs f s k))
/-- The few. -/
structure FewG (g : PG) : Prop where
  prods : g.prods.length ≤ 1000000
  terms : g.terms.length ≤ 1000000
  sides : Sides g
theorem Sep.alloc' {ab : Nat} {W V : World} (h : Sep ab W.heap.size W V) (o : Obj) : Sep ab W.heap.size W (V.alloc o) := h.trans ((Sep.of_below (g := ab) ((Below.refl V.heap.size V).alloc (Nat.le_refl _) o)).mono h.size)
/-- Within grown's last loop. -/
structure GAt (W0 : World) (ab tb : Nat) (cs5 : Array Value) (n : Int) (A : Option Addr) (c : Nat) (acc : List Tr) (k : Nat) (W : World) : Prop where
  atb : W.heap[ab]? = some (.cells #[.int .i64 (k : Nat)] 3 (0, 0))
  wbox : W.heap[W0.heap.size]? = some (.cells cs5 34 (0, 0))
  res : W.heap[W0.heap.size + 1]? = some (.cells #[.int .i64 0, .slice none 0 0] 39 (0, 0))
  box : W.heap[tb]? = some (.cells #[.int .i64 n, .slice A acc.length c] 39 (0, 0))
  items : TItems (tb + 1) W A c acc
  sep : Sep ab W0.heap.size W0 W
  lts : ab < W0.heap.size ∧ W0.heap.size + 1 < tb
section
variable {W0 W W' : World} {ab tb : Nat} {cs5 : Array Value} {n : Int} {A : Option Addr} {c : Nat} {acc : List Tr} {k k' : Nat}
theorem GAt.under (h : GAt W0 ab tb cs5 n A c acc k W) (b : Below W.heap.size W W') : GAt W0 ab tb cs5 n A c acc k W' :=
  ⟨(b.block _ (Gn.heap_lt h.atb)).trans h.atb, (b.block _ (Gn.heap_lt h.wbox)).trans h.wbox, (b.block _ (Gn.heap_lt h.res)).trans h.res, (b.block _ (Gn.heap_lt h.box)).trans h.box, h.items.keep b.size (fun r _ hr => b.block r hr), h.sep.trans ((Sep.of_below (g := ab) b).mono h.sep.size), h.lts⟩
theorem GAt.call (h : GAt W0 ab tb cs5 n A c acc k W) (s : Sep ab W.heap.size W W') (ha : W'.heap[ab]? = some (.cells #[.int .i64 (k' : Nat)] 3 (0, 0))) : GAt W0 ab tb cs5 n A c acc k' W' := by
  obtain ⟨l1, l2⟩ := h.lts
  exact ⟨ha, (s.block _ (Gn.heap_lt h.wbox) (by omega)).trans h.wbox, (s.block _ (Gn.heap_lt h.res) (by omega)).trans h.res, (s.block _ (Gn.heap_lt h.box) (by omega)).trans h.box, h.items.keep s.size (fun q hq hr => s.block q hr (by omega)), h.sep.trans (s.mono h.sep.size), ⟨l1, l2⟩⟩
theorem GAt.snoc {w4 : World} {lo gq c' : Nat} {t : Tr} {x y : Value} {o : Obj} (h : GAt W0 ab tb cs5 n A c acc k W) (hlo : tb + 1 ≤ lo) (hown : ∀ k, (Value.slice A acc.length c).ownBlock = some k → k < lo) (hn : TrAt (fun r => lo ≤ r) W t x y)
    (hown4 : ∀ vs : List (Value × Value), W.ownsRow (tb + 1) 39 2 (.slice A acc.length c) acc.length (Fx.cells2 vs) → w4.ownsRow (tb + 1) 39 2 (.slice (some ⟨gq, 0, none⟩) (acc.length + 1) c') (acc.length + 1) (Fx.cells2 vs ++ [x, y]))
    (hg : (W.alloc o).grownBy w4 (Value.slice A acc.length c).ownBlock) (hat : (Value.slice A acc.length c).ownBlock = some gq ∨ gq = (W.alloc o).heap.size) :
    w4.heap[tb]? = some (.cells #[.int .i64 n, .slice A acc.length c] 39 (0, 0)) ∧ GAt W0 ab tb cs5 n (some ⟨gq, 0, none⟩) c' (acc ++ [t]) k (w4.setCell ⟨tb, 1, none⟩ (.slice (some ⟨gq, 0, none⟩) (acc.length + 1) c')) := by
  obtain ⟨l1, l2⟩ := h.lts
  have hb := h.items.own_lt
  obtain ⟨A2, c2, hv, hit⟩ := h.items.snoc hlo hown hn hown4 hg (hat.elim (fun h => .inl (by rw [h]; rfl)) (fun h => .inr (by subst h; rfl)))
  injection hv with e1 _ e2
  subst e1
  subst e2
  have keep : ∀ q, q < W.heap.size → q ≤ tb → w4.heap[q]? = W.heap[q]? := fun q hq hq2 =>
    (hg.block q (by simp; omega) (fun e => by have := (hb q e.symm).2; omega)).trans (heap_alloc_old W o hq)
  have hlb := Gn.heap_lt h.box
  have hsz : W.heap.size + 1 ≤ w4.heap.size := by have := hg.size; simp at this; omega
  have hb4 := (keep tb hlb (Nat.le_refl _)).trans h.box
  have hset : ∀ q, tb ≠ q → (w4.setCell ⟨tb, 1, none⟩ (.slice (some ⟨gq, 0, none⟩) (acc.length + 1) c')).heap[q]? = w4.heap[q]? := fun q hq => Gn.set_keep w4 1 _ hq
  have hszs : (w4.setCell ⟨tb, 1, none⟩ (.slice (some ⟨gq, 0, none⟩) (acc.length + 1) c')).heap.size = w4.heap.size := by simp [World.setCell]
  have hsep : Sep ab W0.heap.size W0 w4 := h.sep.trans ⟨hg.os, hg.tape, hg.output, by omega, fun q hq _ => keep q (by have := h.sep.size; omega) (by omega)⟩
  refine ⟨hb4, ⟨((hset ab (by omega)).trans (keep ab (Gn.heap_lt h.atb) (by omega))).trans h.atb, ((hset _ (by omega)).trans (keep _ (Gn.heap_lt h.wbox) (by omega))).trans h.wbox, ((hset _ (by omega)).trans (keep _ (Gn.heap_lt h.res) (by omega))).trans h.res, ?_, ?_, hsep.setCell (.inr (by simp; omega)) _, ⟨l1, l2⟩⟩⟩
  · have := Gn.heap_set hb4 1 (.slice (some ⟨gq, 0, none⟩) (acc.length + 1) c')
    rw [show (acc ++ [t]).length = acc.length + 1 by simp]
    exact this
  · exact hit.keep (by rw [hszs]; exact Nat.le_refl _) fun q hq _ => hset q (by omega)
end
theorem Sep.alloc2 {ab c : Nat} {W V : World} (h : Sep ab c W V) (o : Obj) (hc : c ≤ W.heap.size := by omega) : Sep ab c W (V.alloc o) := h.trans ((Sep.of_below (g := ab) ((Below.refl V.heap.size V).alloc (Nat.le_refl _) o)).mono (Nat.le_trans hc h.size))
set_option maxHeartbeats 16000000 in
theorem grown_any (g : PG) (hf : FewG g) (cs : List Int) (hcs : cs.length ≤ 9223372036854775807) : ∀ f, GwCtr g cs f
  | 0 => by
    intro W ab k s v u hg hu ha hs hk hfu
    omega
  | f + 1 => by
    have IH := Lib.hid (grown_any g hf cs hcs f)
    obtain ⟨i0, hi0, hz0, hz1, hz2⟩ := info_parts Fx.iinfo
    obtain ⟨j0, hj0, hy0, hy1, hy2⟩ := info_parts trinfo
    intro W ab k s v u hg hu ha hs hk hfu
    obtain ⟨An, At_, Ap, cn, ct, cp, rfl, hN, hT, hP⟩ := hg.open_
    have hu0 := hu
    obtain ⟨Ac, cc, qc, oc, rfl, hc2, hc3⟩ := hu
    obtain ⟨np, hnp⟩ : ∃ np, np = g.prods.length := ⟨_, rfl⟩
    obtain ⟨lt, hlt⟩ : ∃ lt, lt = g.terms.length := ⟨_, rfl⟩
    obtain ⟨ln, hln⟩ : ∃ ln, ln = g.names.length := ⟨_, rfl⟩
    obtain ⟨lc, hlc⟩ : ∃ lc, lc = cs.length := ⟨_, rfl⟩
    obtain ⟨st, hst⟩ : ∃ st, st = g.start := ⟨_, rfl⟩
    obtain ⟨ru, hru⟩ : ∃ ru, ru = g.rules := ⟨_, rfl⟩
    rw [← hnp, ← hlt, ← hln, ← hst, ← hru] at hg ⊢
    rw [← hnp] at hP
    rw [← hlc] at hc2 hcs ⊢
    have hfp := hf.prods
    rw [← hnp] at hfp
    have hab := Gn.heap_lt ha
    obtain ⟨V, hV⟩ : ∃ V, V = (W.alloc (.cells #[.int .i64 st, .int .i64 ru, .slice An ln cn, .slice At_ lt ct, .slice Ap np cp] 34)).alloc (.cells #[.int .i64 0, .slice none 0 0] 39) := ⟨_, rfl⟩
    have hb0 : Below W.heap.size W V := by rw [hV]; exact ((Below.refl _ W).alloc (Nat.le_refl _) _).alloc (by simp) _
    have hVz : V.heap.size = W.heap.size + 2 := by rw [hV]; simp
    have hx0 : V.heap[W.heap.size]? = some (.cells #[.int .i64 st, .int .i64 ru, .slice An ln cn, .slice At_ lt ct, .slice Ap np cp] 34 (0, 0)) := by rw [hV]; exact (heap_alloc_old _ _ (by simp)).trans (heap_alloc_new W _)
    have hx1 : V.heap[W.heap.size + 1]? = some (.cells #[.int .i64 0, .slice none 0 0] 39 (0, 0)) := by
      rw [hV]; have := heap_alloc_new (W.alloc (.cells #[.int .i64 st, .int .i64 ru, .slice An ln cn, .slice At_ lt ct, .slice Ap np cp] 34)) (.cells #[.int .i64 0, .slice none 0 0] 39); simpa using this
    have ha0 := (hb0.block ab hab).trans ha
    obtain ⟨R, hR⟩ : ∃ R, R = grownT g cs (f + 1) s k := ⟨_, rfl⟩
    rw [← hR]
    have HR := Lib.hid (show R = if s < 0 then some (.mk s [], k) else if lc ≤ k ∨ 60 < k then none else
      if (ownT g s np).length = 0 then none else
      wrapG ((ownT g s np).getD (pickT (cs.getD k 0) (ownT g s np).length) 0 : Nat)
        (growKids (grownT g cs f) (g.prods.getD ((ownT g s np).getD (pickT (cs.getD k 0) (ownT g s np).length) 0) prd0).right (k + 1) []) by rw [hR, grownT, hnp, hlc])
    rw [← hlt] at hs
    have HV := Lib.hid hV
    have HVZ := Lib.hid hVz
    have HB0 := Lib.hid hb0
    have HX0 := Lib.hid hx0
    have HX1 := Lib.hid hx1
    have HA0 := Lib.hid ha0
    have HG := Lib.hid hg
    have HP := Lib.hid hP
    have HC2 := Lib.hid hc2
    have HCH := Lib.hid (show ChAt ab W cs (.slice Ac lc cc) by rw [hlc]; exact hu0)
    clear hu0
    have HC3 := Lib.hid hc3
    have HNP := Lib.hid hnp
    have HLC := Lib.hid hlc
    have HF := Lib.hid hf
    clear hV hVz hb0 hx0 hx1 ha0 hR hg hP hc2 hc3 hnp hlt hln hlc hN hT ha hf hst hru
    go_enter Try.func31, Try.ntmps31
    go_upto_region 1 with fail
    rw [← HV.out]
    have a0 := cell_of_row _ _ 0 _ _ (0, 0) HA0.out
    have r0 := cell_of_row _ _ 0 _ _ (0, 0) HX1.out
    have r1 := cell_of_row _ _ 1 _ _ (0, 0) HX1.out
    have rf0 := Gn.frozen_row HX1.out 0
    have rf1 := Gn.frozen_row HX1.out 1
    by_cases hn : s < 0
    · have hR2 : R = some (.mk s [], k) := by rw [HR.out, if_pos hn]
      have hrs := res_set HX1.out (.int .i64 s) (.slice none 0 0)
      have HRS := Lib.hid hrs
      clear hrs
      go_wp2_with fail
      refine bodyPost_ret (results_cell_tmp (P := Try.prog) rfl _ _ (W.heap.size + 1) 39 _ (0, 0) _ _ rfl rfl HRS.out Try.underlying39 rfl (by kernel_rfl)) rfl ?_
      rw [hR2]
      refine ⟨((Sep.of_below (g := ab) HB0.out).setCell (.inr (by simp)) _).setCell (.inr (by simp)) _, _, _, rfl, .mk s [] none 0 0 (fun _ => .bool false) (fun _ => .bool false) (fun h => absurd h (by simp)) (Nat.le_refl _) (fun i h => absurd h (by simp)) (fun i h => absurd h (by simp)), ?_⟩
      exact (Gn.set_keep _ 1 _ (by omega)).trans ((Gn.set_keep _ 0 _ (by omega)).trans HA0.out)
    by_cases hk1 : lc ≤ k
    · have hR2 : R = none := by rw [HR.out, if_neg hn, if_pos (.inl hk1)]
      have hrs := res_set HX1.out (.int .i64 0) (.slice none 0 0)
      have HRS := Lib.hid hrs
      have hk1' : (lc : Int) ≤ (k : Int) := by omega
      clear hrs
      go_wp2_with fail
      refine bodyPost_ret (results_cell_tmp (P := Try.prog) rfl _ _ (W.heap.size + 1) 39 _ (0, 0) _ _ rfl rfl HRS.out Try.underlying39 rfl (by kernel_rfl)) rfl ?_
      exact ⟨((Sep.of_below (g := ab) HB0.out).setCell (.inr (by simp)) _).setCell (.inr (by simp)) _, _, _, _, _, rfl⟩
    have hk1' : ¬ (lc : Int) ≤ (k : Int) := by omega
    by_cases hk2 : 60 < k
    · have hR2 : R = none := by rw [HR.out, if_neg hn, if_pos (.inr hk2)]
      have hrs := res_set HX1.out (.int .i64 0) (.slice none 0 0)
      have HRS := Lib.hid hrs
      have hk2' : (60 : Int) < (k : Int) := by omega
      clear hrs
      go_wp2_with fail
      refine bodyPost_ret (results_cell_tmp (P := Try.prog) rfl _ _ (W.heap.size + 1) 39 _ (0, 0) _ _ rfl rfl HRS.out Try.underlying39 rfl (by kernel_rfl)) rfl ?_
      exact ⟨((Sep.of_below (g := ab) HB0.out).setCell (.inr (by simp)) _).setCell (.inr (by simp)) _, _, _, _, _, rfl⟩
    have hk2' : ¬ (60 : Int) < (k : Int) := by omega
    have hR3 := Lib.hid (HR.out.trans ((if_neg hn).trans (if_neg (by omega))))
    clear HR
    have hkl : k < cs.length := by rw [← HLC.out]; omega
    obtain ⟨eAc, hqc⟩ := HC2.out (by omega)
    subst eAc
    have p0 := (HB0.out.cell (p := ⟨qc, oc + k, none⟩) (Nat.lt_trans hqc hab)).trans (HC3.out k hkl)
    obtain ⟨pk, hpk⟩ : ∃ pk, pk = cs[k] := ⟨_, rfl⟩
    rw [← hpk] at p0
    have HPK := Lib.hid hpk
    have af := Gn.frozen_row HA0.out 0
    clear hpk
    go_upto_region 7 with fail
    generalize hW2 : V.setCell ⟨ab, 0, none⟩ (.int .i64 ((k : Int) + 1)) = w2
    have ha2 : w2.heap[ab]? = some (.cells #[.int .i64 ((k + 1 : Nat) : Int)] 3 (0, 0)) := by rw [← hW2]; exact Gn.heap_set HA0.out 0 _
    have hk2 : ∀ q, q ≠ ab → w2.heap[q]? = V.heap[q]? := fun q hq => by rw [← hW2]; exact Gn.set_keep _ _ _ (Ne.symm hq)
    have hz2 : w2.heap.size = W.heap.size + 2 := by
      have : w2.heap.size = V.heap.size := by rw [← hW2]; simp [World.setCell]
      rw [this, HVZ.out]
    have hw2 := (hk2 W.heap.size (by omega)).trans HX0.out
    have hr2 := (hk2 (W.heap.size + 1) (by omega)).trans HX1.out
    have hs2 : Sep ab W.heap.size W w2 := by rw [← hW2]; exact (Sep.of_below (g := ab) HB0.out).setCell (.inl rfl) _
    have hP2 : PrdsAt (fun r => r < ab) w2 g.prods (.slice Ap np cp) := HP.out.keep hs2.size fun r hr hrz => ⟨hr, fun j => Gn.cell_same (hs2.block r hrz (by omega)) j⟩
    obtain ⟨lo, hlo⟩ : ∃ lo, lo = W.heap.size + 2 := ⟨_, rfl⟩
    have HA2 := Lib.hid ha2
    have HW2 := Lib.hid hw2
    have HRS2 := Lib.hid hr2
    have HS2 := Lib.hid hs2
    have HP2 := Lib.hid hP2
    have HLO := Lib.hid hlo
    have HZ2 := Lib.hid hz2
    clear hW2 ha2 hk2 hz2 hw2 hr2 hs2 hP2 hlo a0 r0 r1 rf0 rf1 p0 af HX0 HX1 HA0 HP HB0 HVZ HV
    clear V
    go_upto_block 0 with fail
    go_wp2_with fail
    go_loopw [11, 12] (fun v x wr => ∃ i : Nat, i ≤ np ∧ x = .int .i64 i ∧ wr.ownsRow lo 3 1 v (ownT g s i).length ((ownT g s i).map (fun q : Nat => Value.int .i64 (q : Int))) ∧ Below lo w2 wr) (fun _ x _ => np - (intOf x).toNat)
    case atStart => exact ⟨0, Nat.zero_le _, rfl, World.ownsRow_nil _ _ _ _, Below.refl _ _⟩
    case round =>
      obtain ⟨i, hi, rfl, hown, hb⟩ := hrel
      have holo : lo ≤ w2.heap.size := by have h1 := HZ2.out; have h2 := HLO.out; omega
      have hw3 := (hb.block W.heap.size (by have h2 := HLO.out; omega)).trans HW2.out
      have d4 := cell_of_row _ _ 4 _ _ (0, 0) hw3
      obtain ⟨Ao, co, rfl⟩ := Gn.slice_of hown
      have hol := own_le g s i
      have HOW := Lib.hid hown
      have HB := Lib.hid hb
      have HW3 := Lib.hid hw3
      obtain ⟨L, hL⟩ : ∃ L, L = (ownT g s i).length := ⟨_, rfl⟩
      have HL := Lib.hid hL
      rw [← hL] at hol
      rw [← hL]
      clear hown hw3 hL
      have hiw := hb.size
      by_cases hin : i < np
      · have hin2 : (i : Int) < (np : Int) := by omega
        have hig : i < g.prods.length := by rw [← HNP.out]; exact hin
        obtain ⟨A', cap', bb, ff, e1, _, e3, e4⟩ := HP2.out
        injection e1 with e1 e6 e5
        subst e1
        subst e5
        obtain ⟨eA, hr, hrb⟩ := e3 (by omega)
        subst eA
        have hrb' : bb < ab := hrb
        obtain ⟨x0, x1, xi⟩ := e4 i hig
        have X0 := (hb.cell (p := ⟨bb, i * 2, none⟩) (show bb < lo by have h2 := HLO.out; omega)).trans x0
        obtain ⟨lf, hlf⟩ : ∃ lf, lf = g.prods[i].left := ⟨_, rfl⟩
        rw [← hlf] at X0
        have hsn := own_snoc g s i hig
        rw [← hlf] at hsn
        clear e6 e3 e4 x0 x1 xi hlf hb
        by_cases hls : lf = s
        · have el : (lf == s) = true := by rw [hls]; exact beq_self_eq_true s
          rw [if_pos hls] at hsn
          have HSN := Lib.hid hsn
          have HX9 := Lib.hid X0
          clear hsn hls
          go_wp2_with (at_builtin; refine wpList_append_lies _ rfl _ _ 22 rfl lo 3 i0 (.int .i64 0) 1 8 Try.underlying22 hi0 hz0 hz1 hz2 rfl (by decide) (.slice Ao L co) L ((ownT g s i).map (fun q : Nat => Value.int .i64 (q : Int))) rfl (by rw [HL.out]; exact HOW.out.alloc _) ⟨wr.heap.size, 0, none⟩ 1 1 [.int .i64 (i : Int)] rfl rfl (Gn.row_new _ [.int .i64 (i : Int)] _ _ rfl) (by simp [Value.oneCell']) (by decide) (by unfold maxLen; omega) (by omega) (by simp; omega) _ rfl ?_; intro gq cap4 w4 hown4 hgrow4 hat4 hlt4; have HO4 := Lib.hid hown4; have HG4 := Lib.hid hgrow4; clear hown4 hgrow4 hat4 hlt4)
          go_roundw
          case rel =>
            refine ⟨i + 1, by omega, by simp, ?_, ?_⟩
            · rw [HSN.out, List.length_append, List.length_singleton, List.map_append, List.map_singleton, ← HL.out]
              exact HO4.out
            · exact Below.grown (HB.out.alloc (by have := HB.out.size; omega) _) HG4.out (by have := HB.out.size; simp; omega) (fun q e => (own_base (show wr.ownsRow lo 3 1 (.slice Ao L co) L _ by rw [HL.out]; exact HOW.out) e).1)
          case measure => simp [intOf]; omega
        · have el : (lf == s) = false := by rw [beq_eq_false_iff_ne]; exact hls
          rw [if_neg hls] at hsn
          have HSN := Lib.hid hsn
          clear hsn
          go_wp2_with fail
          go_roundw
          case rel => exact ⟨i + 1, by omega, by simp, by rw [HSN.out, ← HL.out]; rw [HL.out]; exact HOW.out, HB.out⟩
          case measure => simp [intOf]; omega
      · have hie : i = np := by omega
        subst hie
        have hin2 : ¬ ((i : Nat) : Int) < ((i : Nat) : Int) := by omega
        go_upto_region 13 with fail
        have hlb := HP2.out.form
        have r0 := fun (w : World) (h : Below lo w2 w) => (h.block (W.heap.size + 1) (by have h2 := HLO.out; omega)).trans HRS2.out
        have HR0 := Lib.hid r0
        clear r0
        by_cases hL0 : L = 0
        · subst hL0
          have hR2 : R = none := by rw [hR3.out, if_pos HL.out.symm]
          have hre := HR0.out wr hb
          have q0 := cell_of_row _ _ 0 _ _ (0, 0) hre
          have q1 := cell_of_row _ _ 1 _ _ (0, 0) hre
          have qf0 := Gn.frozen_row hre 0
          have qf1 := Gn.frozen_row hre 1
          have HRS := Lib.hid (res_set hre (.int .i64 0) (.slice none 0 0))
          clear hre hb
          go_wp2_with fail
          refine bodyPost_ret (results_cell_tmp (P := Try.prog) rfl _ _ (W.heap.size + 1) 39 _ (0, 0) _ _ rfl rfl HRS.out Try.underlying39 rfl (by kernel_rfl)) rfl ?_
          exact ⟨((HS2.out.trans ((Sep.of_below (g := ab) HB.out).mono (by have h2 := HLO.out; omega))).setCell (.inr (by simp)) _).setCell (.inr (by simp)) _, _, _, _, _, rfl⟩
        have el0 : ((L : Int) == 0) = false := by rw [beq_eq_false_iff_ne]; omega
        have el1 : ¬ (L : Int) = 0 := by omega
        have hR4 := Lib.hid (hR3.out.trans (if_neg (by rw [← HL.out]; exact hL0)))
        obtain ⟨q1, q2, e1, h1, h2, e2, e3, h3, h4⟩ := rem_inT pk L (by omega)
        have hpick : pickT pk L = q2.toNat := by unfold pickT; rw [e1, e2]
        obtain ⟨j, rfl⟩ : ∃ j : Nat, q2 = (j : Int) := ⟨q2.toNat, by omega⟩
        have hjL : j < L := by omega
        have HPI := Lib.hid (show pickT pk L = j by rw [hpick]; simp)
        rcases HOW.out.2 with ⟨_, hz9⟩ | ⟨go, cp9, cur, e9, hlg, hgh, _⟩
        · rw [← HL.out] at hz9; omega
        injection e9 with e9 _ _
        subst e9
        have hjo : j < (ownT g s i).length := by rw [← HL.out]; exact hjL
        have g0 : wr.cell? ⟨go, j, none⟩ = some (.int .i64 (((ownT g s i)[j] : Nat) : Int)) := by
          have := HOW.out.cells (g := go) rfl j (.int .i64 (((ownT g s i)[j] : Nat) : Int)) (by simp [List.getElem?_eq_getElem hjo])
          rwa [Gn.add_row] at this
        have hmm := own_mem _ _ (List.getElem_mem hjo)
        obtain ⟨n1, hn1⟩ : ∃ n1, n1 = (ownT g s i)[j] := ⟨_, rfl⟩
        rw [← hn1] at g0 hmm
        have HN1 := Lib.hid (show (ownT g s i).getD (pickT (cs.getD k 0) (ownT g s i).length) 0 = n1 by
          have e5 : cs.getD k 0 = pk := by rw [HPK.out, List.getD_eq_getElem?_getD, List.getElem?_eq_getElem hkl]; rfl
          rw [e5, ← HL.out, HPI.out, List.getD_eq_getElem?_getD, List.getElem?_eq_getElem hjo, hn1]; rfl)
        have hn1p := hmm.1
        have hgz := Gn.heap_lt hgh
        clear hmm hn1 hpick hgh hlb
        have hn1g : n1 < g.prods.length := by rw [← HNP.out]; exact hn1p
        obtain ⟨A', cap', bb, ff, e5, _, e3, e4⟩ := HP2.out
        injection e5 with e5 e6 e7
        subst e5
        subst e7
        obtain ⟨eA, hr, hrb⟩ := e3 (by omega)
        subst eA
        have hrb' : bb < ab := hrb
        obtain ⟨x0, x1, xi⟩ := e4 n1 hn1g
        have hsh := HF.out.sides.short _ (List.getElem_mem hn1g)
        have hlw := HF.out.sides.low _ (List.getElem_mem hn1g)
        obtain ⟨ys, hys⟩ : ∃ ys, ys = g.prods[n1].right := ⟨_, rfl⟩
        rw [← hys] at xi hsh hlw
        have e0 : g.prods.getD n1 prd0 = g.prods[n1] := by rw [List.getD_eq_getElem?_getD, List.getElem?_eq_getElem hn1g]; rfl
        have hR5 := Lib.hid (show R = wrapG (n1 : Nat) (growKids (grownT g cs f) ys (k + 1) []) by rw [hR4.out, HN1.out, e0, hys])
        have HYS := Lib.hid xi
        obtain ⟨Ay, cy, exi⟩ := xi.form
        rw [exi] at x1 HYS
        have hbox := HB.out
        have X1 := (hbox.cell (p := ⟨bb, n1 * 2 + 1, none⟩) (show bb < lo by have h2 := HLO.out; omega)).trans x1
        obtain ⟨ly, hly⟩ : ∃ ly, ly = ys.length := ⟨_, rfl⟩
        rw [← hly] at X1 HYS hsh
        have HLY := Lib.hid hly
        have HLW := Lib.hid hlw
        have hg0 := Lib.hid g0
        have hx1' : ∀ o, (wr.alloc o).cell? ⟨bb, n1 * 2 + 1, none⟩ = some (.slice Ay ly cy) := cell_al X1
        have hd4' : ∀ o, (wr.alloc o).cell? ⟨W.heap.size, 4, none⟩ = some (.slice (some ⟨bb, 0, none⟩) i cp) := cell_al d4
        clear e6 e3 e4 x0 x1 xi exi hys hly hlw e0 hb hR3 hR4 HN1 HPI
        have hzz : IntKind.i64.wrap (q1 + (L : Int)) = q1 + (L : Int) := IntWalk.i64_in _ (by omega)
        have hj2 : (j : Int) < (L : Int) := by omega
        go_upto_region 16 with fail
        have hgat : GAt W ab wr.heap.size #[.int .i64 st, .int .i64 ru, .slice An ln cn, .slice At_ lt ct, .slice (some ⟨bb, 0, none⟩) i cp] (n1 : Int) none 0 [] (k + 1) (wr.alloc (.cells #[.int .i64 (n1 : Int), .slice none 0 0] 39)) := by
          have hlo := HLO.out
          have hz := HZ2.out
          have hbw : Below W.heap.size w2 wr := HB.out.mono (by omega)
          have hwz := HB.out.size
          have a2 : wr.heap[ab]? = some (.cells #[.int .i64 ((k + 1 : Nat) : Int)] 3 (0, 0)) := (HB.out.block ab (by omega)).trans HA2.out
          have hr2 := HR0.out wr HB.out
          exact ⟨(heap_alloc_old _ _ (by omega)).trans a2, (heap_alloc_old _ _ (by omega)).trans HW3.out, (heap_alloc_old _ _ (by omega)).trans hr2, heap_alloc_new wr _, TItems.nil _ _, Sep.alloc' (HS2.out.trans ((Sep.of_below (g := ab) HB.out).mono (by omega))) _, ⟨hab, by omega⟩⟩
        have hwt : W.heap.size + 1 < wr.heap.size := hgat.lts.2
        have hyz : ∀ w, Sep ab W.heap.size W w → IntsAt (fun r => r < ab) w2 ys (.slice Ay ly cy) → True := fun _ _ _ => trivial
        generalize hV3 : wr.alloc (.cells #[.int .i64 (n1 : Int), .slice none 0 0] 39) = V3
        rw [hV3] at hgat
        have ht0 := cell_of_row _ _ 0 _ _ (0, 0) hgat.box
        have hd4 := cell_of_row _ _ 4 _ _ (0, 0) hgat.wbox
        have hx1 := hx1' (.cells #[.int .i64 (n1 : Int), .slice none 0 0] 39)
        rw [hV3] at hx1
        generalize htb : wr.heap.size = tb at *
        have HGA := Lib.hid hgat
        clear hV3 hx1' hd4' hzz hg0 hbox htb g0 hyz
        go_upto_region 18 with fail
        clear ht0 hd4 hx1 hgat
        have HIH := Lib.hid (fun (X : World) (k2 : Nat) (y : Int) (hX : Sep ab W.heap.size W X) (hax : X.heap[ab]? = some (.cells #[.int .i64 (k2 : Nat)] 3 (0, 0))) (hy : -(g.terms.length : Int) ≤ y) (h61 : k2 ≤ 61) (h62 : 62 ≤ f + k2) =>
          IH.out X ab k2 y _ _ (HG.out.keep hX.size fun r hr hrz => ⟨hr, fun j => Gn.cell_same (hX.block r hrz (by omega)) j⟩) (HCH.out.sep fun q hq => hX.block q (by omega) (by omega)) hax hy h61 h62)
        have HYC := Lib.hid (fun (X : World) (hX : Sep ab W.heap.size W X) => show IntsAt (fun r => r < ab) X ys (.slice Ay ly cy) from (by
          obtain ⟨A9, c9, b9, e9, h1, h2, h3⟩ := HYS.out
          exact ⟨A9, c9, b9, e9, h1, fun h0 => ⟨(h2 h0).1, by have := (h2 h0).2.2; have := hX.size; omega, (h2 h0).2.2⟩, fun q hq => by
            have h5 := (h2 (by omega)).2.2
            rw [← h3 q hq, Gn.cell_same (hX.block b9 (by omega) (by omega)), Gn.cell_same (HS2.out.block b9 (by omega) (by omega))]⟩))
        go_loopw [15] (fun x w => ∃ (q : Nat) (A : Option Addr) (c : Nat) (acc : List Tr) (k2 : Nat), q ≤ ly ∧ x = .int .i64 q ∧ GAt W ab tb #[.int .i64 st, .int .i64 ru, .slice An ln cn, .slice At_ lt ct, .slice (some ⟨bb, 0, none⟩) i cp] (n1 : Int) A c acc k2 w ∧ acc.length = q ∧ R = wrapG (n1 : Nat) (growKids (grownT g cs f) (ys.drop q) k2 acc) ∧ k + 1 ≤ k2 ∧ k2 ≤ 61) (fun x _ => ly - (intOf x).toNat)
        case atStart => exact ⟨0, none, 0, [], k + 1, Nat.zero_le _, rfl, HGA.out, rfl, by rw [List.drop_zero]; exact hR5.out, Nat.le_refl _, by omega⟩
        case round =>
          obtain ⟨q, A, c, acc, k2, hq, rfl, hga, hal, hRk, hk3, hk4⟩ := hrel
          have HG2 := Lib.hid hga
          have HRK := Lib.hid hRk
          have HAL := Lib.hid hal
          clear hRk hga hal X1
          by_cases hql : q < ly
          rotate_left
          · have hqe : q = ly := by omega
            subst hqe
            have hql2 : ¬ ((q : Nat) : Int) < ((q : Nat) : Int) := by omega
            have hR6 : R = some (.mk (n1 : Nat) acc, k2) := by
              rw [HRK.out, List.drop_eq_nil_of_le (by rw [← HLY.out]; exact Nat.le_refl _), growKids, wrapG]
            have t0 := cell_of_row _ _ 0 _ _ (0, 0) HG2.out.box
            have t1 := cell_of_row _ _ 1 _ _ (0, 0) HG2.out.box
            have r0 := cell_of_row _ _ 0 _ _ (0, 0) HG2.out.res
            have r1 := cell_of_row _ _ 1 _ _ (0, 0) HG2.out.res
            have rf0 := Gn.frozen_row HG2.out.res 0
            have rf1 := Gn.frozen_row HG2.out.res 1
            have HRS := Lib.hid (res_set HG2.out.res (.int .i64 (n1 : Nat)) (.slice A acc.length c))
            have hlt := HG2.out.lts
            have hk9 : ∀ b, W.heap.size + 1 ≠ b → ((wr.setCell ⟨W.heap.size + 1, 0, none⟩ (.int .i64 (n1 : Nat))).setCell ⟨W.heap.size + 1, 1, none⟩ (.slice A acc.length c)).heap[b]? = wr.heap[b]? := fun b hb => (Gn.set_keep _ 1 _ hb).trans (Gn.set_keep _ 0 _ hb)
            have hsz9 : ((wr.setCell ⟨W.heap.size + 1, 0, none⟩ (.int .i64 (n1 : Nat))).setCell ⟨W.heap.size + 1, 1, none⟩ (.slice A acc.length c)).heap.size = wr.heap.size := by simp [World.setCell]
            have HFI := Lib.hid (show GwOut W ab (some (.mk (n1 : Nat) acc, k2)) (.returned (.tuple #[.agg #[.int .i64 (n1 : Nat), .slice A acc.length c], .bool true])) ((wr.setCell ⟨W.heap.size + 1, 0, none⟩ (.int .i64 (n1 : Nat))).setCell ⟨W.heap.size + 1, 1, none⟩ (.slice A acc.length c)) from
              ⟨(HG2.out.sep.setCell (.inr (by simp)) _).setCell (.inr (by simp)) _, _, _, rfl, (HG2.out.items.trs.tree _).keep (by rw [hsz9]; exact Nat.le_refl _) (fun r hr _ => ⟨by omega, fun j => Gn.cell_same (hk9 r (by omega)) j⟩), (hk9 ab (by omega)).trans HG2.out.atb⟩)
            clear hk9 hsz9
            go_wp2_with fail
            refine bodyPost_ret (results_cell_tmp (P := Try.prog) rfl _ _ (W.heap.size + 1) 39 _ (0, 0) _ _ rfl rfl HRS.out Try.underlying39 rfl (by kernel_rfl)) rfl ?_
            exact HFI.out
          have hqy : q < ys.length := by rw [← HLY.out]; exact hql
          have hql2 : (q : Int) < (ly : Int) := by omega
          obtain ⟨A9, c9, b9, e9, h9a, h9b, h9c⟩ := HYC.out wr HG2.out.sep
          rw [← HLY.out] at e9 h9b
          injection e9 with e9a e9b e9c
          subst e9a
          subst e9c
          obtain ⟨eA9, h9d, h9e⟩ := h9b (by omega)
          subst eA9
          have h9e' : b9 < ab := h9e
          have yc := h9c q hqy
          have hylow := HLW.out ys[q] (List.getElem_mem hqy)
          have hdr : ys.drop q = ys[q] :: ys.drop (q + 1) := List.drop_eq_getElem_cons hqy
          obtain ⟨y, hy⟩ : ∃ y, y = ys[q] := ⟨_, rfl⟩
          rw [← hy] at yc hylow hdr
          have HDR := Lib.hid hdr
          have HYL := Lib.hid hylow
          have HY9 := Lib.hid h9e'
          have HMK := Lib.hid (fun (w' : World) (hs : Sep ab wr.heap.size wr w') => show (fun w' : World => w'.cell? ⟨W.heap.size, 0, none⟩ = some (.int .i64 st) ∧ w'.cell? ⟨W.heap.size, 1, none⟩ = some (.int .i64 ru) ∧ w'.cell? ⟨W.heap.size, 2, none⟩ = some (.slice An ln cn) ∧ w'.cell? ⟨W.heap.size, 3, none⟩ = some (.slice At_ lt ct) ∧ w'.cell? ⟨W.heap.size, 4, none⟩ = some (.slice (some ⟨bb, 0, none⟩) i cp) ∧ w'.cell? ⟨b9, q, none⟩ = some (.int .i64 y)) w' from (by
            have hw := (hs.block _ (Gn.heap_lt HG2.out.wbox) (by omega)).trans HG2.out.wbox
            have hyy := (Gn.cell_same (hs.block b9 h9d (by omega)) q).trans yc
            exact ⟨cell_of_row _ _ 0 _ _ (0, 0) hw, cell_of_row _ _ 1 _ _ (0, 0) hw, cell_of_row _ _ 2 _ _ (0, 0) hw, cell_of_row _ _ 3 _ _ (0, 0) hw, cell_of_row _ _ 4 _ _ (0, 0) hw, hyy⟩))
          have HBS := Lib.hid (fun (X : World) (hX : Below wr.heap.size wr X) => HIH.out X k2 y (HG2.out.sep.trans ((Sep.of_below (g := ab) hX).mono HG2.out.sep.size)) ((hX.block ab (Gn.heap_lt HG2.out.atb)).trans HG2.out.atb) HYL.out hk4 (by omega))
          have hab9 : ab < wr.heap.size := Gn.heap_lt HG2.out.atb
          clear hdr hylow hy h9a h9b h9c h9e h9e' h9d e9b yc
          go_upto_region 20 with fail
          rcases hT : grownT g cs f y k2 with _ | ⟨t, k3⟩
          · have hR6 : R = none := by rw [HRK.out, HDR.out, growKids, hT]; rfl
            have HCA := Lib.hid (fun (X : World) (hX : Below wr.heap.size wr X) => (HBS.out X hX).mono fun e w' h => show ∃ (n : Int) (A : Option Addr) (m c : Nat), e = .returned (.tuple #[.agg #[.int .i64 n, .slice A m c], .bool false]) ∧ Sep ab wr.heap.size wr w' ∧ X.heap.size ≤ w'.heap.size ∧ ∀ j, j < X.heap.size → j ≠ ab → w'.heap[j]? = X.heap[j]? from (by
              rw [hT] at h
              obtain ⟨h1, n, A, m, c, h2⟩ := h
              exact ⟨n, A, m, c, h2, (Sep.of_below (g := ab) hX).trans (h1.mono hX.size), h1.size, fun j hj hja => h1.block j hj hja⟩))
            clear hT HBS
            refine wp_region_noPanic ?_
            refine wp_region_held_drew (S := (fun w' : World => w'.cell? ⟨W.heap.size, 0, none⟩ = some (.int .i64 st) ∧ w'.cell? ⟨W.heap.size, 1, none⟩ = some (.int .i64 ru) ∧ w'.cell? ⟨W.heap.size, 2, none⟩ = some (.slice An ln cn) ∧ w'.cell? ⟨W.heap.size, 3, none⟩ = some (.slice At_ lt ct) ∧ w'.cell? ⟨W.heap.size, 4, none⟩ = some (.slice (some ⟨bb, 0, none⟩) i cp) ∧ w'.cell? ⟨b9, q, none⟩ = some (.int .i64 y))) (by kernel_rfl) ?_ (fun hHeld => ?_)
            · exact HMK.out _ (Sep.of_below (Gn.below_drew (Below.refl _ _)))
            refine wpAnyH_take (i := 0) (v := ?_) rfl (by kernel_rfl) (by kernel_rfl) (by kernel_rfl) (fun _ _ _ h => h) (Or.inl ⟨by rfl, ?_⟩) (by assumption) ?_
            rotate_left
            · intro w hSw
              try dsimp only at hSw
              go_simp
              try with_reducible rfl
            try simp only [Act.put, List.setIfInBounds_toArray, List.set_cons_zero, List.set_cons_succ]
            refine wpAnyH_take (i := 1) (v := ?_) rfl (by kernel_rfl) (by kernel_rfl) (by kernel_rfl) (fun _ _ _ h => h) (Or.inl ⟨by rfl, ?_⟩) (by assumption) ?_
            rotate_left
            · intro w hSw
              try dsimp only at hSw
              go_simp
              try with_reducible rfl
            try simp only [Act.put, List.setIfInBounds_toArray, List.set_cons_zero, List.set_cons_succ]
            refine wpAnyH_take (i := 2) (v := ?_) rfl (by kernel_rfl) (by kernel_rfl) (by kernel_rfl) (fun _ _ _ h => h) (Or.inl ⟨by rfl, ?_⟩) (by assumption) ?_
            rotate_left
            · intro w hSw
              try dsimp only at hSw
              go_simp
              try with_reducible rfl
            try simp only [Act.put, List.setIfInBounds_toArray, List.set_cons_zero, List.set_cons_succ]
            refine wpAnyH_take (i := 3) (v := ?_) rfl (by kernel_rfl) (by kernel_rfl) (by kernel_rfl) (fun _ _ _ h => h) (Or.inl ⟨by rfl, ?_⟩) (by assumption) ?_
            rotate_left
            · intro w hSw
              try dsimp only at hSw
              go_simp
              try with_reducible rfl
            try simp only [Act.put, List.setIfInBounds_toArray, List.set_cons_zero, List.set_cons_succ]
            refine wpAnyH_take (i := 4) (v := ?_) rfl (by kernel_rfl) (by kernel_rfl) (by kernel_rfl) (fun _ _ _ h => h) (Or.inl ⟨by rfl, ?_⟩) (by assumption) ?_
            rotate_left
            · intro w hSw
              try dsimp only at hSw
              go_simp
              try with_reducible rfl
            try simp only [Act.put, List.setIfInBounds_toArray, List.set_cons_zero, List.set_cons_succ]
            refine wpAnyH_take (i := 5) (v := ?_) rfl (by kernel_rfl) (by kernel_rfl) (by kernel_rfl) (fun _ _ _ h => h) (Or.inl ⟨by rfl, ?_⟩) (by assumption) ?_
            rotate_left
            · intro w hSw
              try dsimp only at hSw
              go_simp
              try with_reducible rfl
            try simp only [Act.put, List.setIfInBounds_toArray, List.set_cons_zero, List.set_cons_succ]
            refine wpAnyH_take (i := 6) (v := ?_) rfl (by kernel_rfl) (by kernel_rfl) (by kernel_rfl) (fun _ _ _ h => h) (Or.inl ⟨by rfl, ?_⟩) (by assumption) ?_
            rotate_left
            · intro w hSw
              try dsimp only at hSw
              go_simp
              try with_reducible rfl
            try simp only [Act.put, List.setIfInBounds_toArray, List.set_cons_zero, List.set_cons_succ]
            refine wpAnyH_ready (rs := [7, 11]) (by kernel_rfl) (by simp) ?_
            refine AllReadyH.cons rfl (fun K hK => ?_) ?_
            · go_simp
              go_at_call 31
              refine (HCA.out _ (by first | exact Gn.below_drew (Below.refl _ _) | exact Gn.below_drew ((Below.refl _ _).alloc (Nat.le_refl _) _) | exact (Gn.below_drew (Below.refl _ _)).alloc (by simp) _)).mono ?_
              rintro e w5 ⟨n5, A5, m5, c5, rfl, hs5, hz5, hb5⟩
              refine hK.out _ _ (HMK.out _ hs5) (fun hHeld => ?_)
              clear hK K
              try simp only [Act.put, List.setIfInBounds_toArray, List.set_cons_zero, List.set_cons_succ]
              refine wpAnyH_take (i := 8) (v := ?_) rfl (by kernel_rfl) (by kernel_rfl) (by kernel_rfl) (fun _ _ _ h => h) (Or.inl ⟨by rfl, ?_⟩) (by assumption) ?_
              rotate_left
              · intro w hSw
                try dsimp only at hSw
                go_simp
                try with_reducible rfl
              try simp only [Act.put, List.setIfInBounds_toArray, List.set_cons_zero, List.set_cons_succ]
              refine wpAnyH_take (i := 9) (v := ?_) rfl (by kernel_rfl) (by kernel_rfl) (by kernel_rfl) (fun _ _ _ h => h) (Or.inl ⟨by rfl, ?_⟩) (by assumption) ?_
              rotate_left
              · intro w hSw
                try dsimp only at hSw
                go_simp
                try with_reducible rfl
              try simp only [Act.put, List.setIfInBounds_toArray, List.set_cons_zero, List.set_cons_succ]
              refine wpAnyH_take (i := 10) (v := ?_) rfl (by kernel_rfl) (by kernel_rfl) (by kernel_rfl) (fun _ _ _ h => h) (Or.inl ⟨by rfl, ?_⟩) (by assumption) ?_
              rotate_left
              · intro w hSw
                try dsimp only at hSw
                go_simp
                try with_reducible rfl
              try simp only [Act.put, List.setIfInBounds_toArray, List.set_cons_zero, List.set_cons_succ]
              refine wpAnyH_ready (rs := [11]) (by kernel_rfl) (by simp) ?_
              refine AllReadyH.cons rfl (fun K hK => ?_) AllReadyH.nil
              go_simp
              refine hK.out _ _ (HMK.out _ (Sep.alloc2 hs5 _)) (fun hHeld => ?_)
              clear hK K
              try simp only [Act.put, List.setIfInBounds_toArray, List.set_cons_zero, List.set_cons_succ]
              refine wpAnyH_ready (rs := [12]) (by kernel_rfl) (by simp) ?_
              refine AllReadyH.cons rfl (fun K hK => ?_) AllReadyH.nil
              go_simp
              refine hK.out _ _ (HMK.out _ (Sep.alloc2 hs5 _)) (fun hHeld => ?_)
              clear hK K
              try simp only [Act.put, List.setIfInBounds_toArray, List.set_cons_zero, List.set_cons_succ]
              refine wpAnyH_ready (rs := [13]) (by kernel_rfl) (by simp) ?_
              refine AllReadyH.cons rfl (fun K hK => ?_) AllReadyH.nil
              go_simp
              refine hK.out _ _ (hHeld) (fun hHeld => ?_)
              clear hK K
              try simp only [Act.put, List.setIfInBounds_toArray, List.set_cons_zero, List.set_cons_succ]
              refine wpAnyH_done (by kernel_rfl) ?_ _
              refine NoPanic.normal ?_
              clear hHeld
              have hs6 : Sep ab wr.heap.size wr (w5.alloc (.cells #[.int .i64 n5, .slice A5 m5 c5] 39)) := Sep.alloc2 hs5 _
              generalize (w5.alloc (.cells #[.int .i64 n5, .slice A5 m5 c5] 39)) = w6 at hs6 ⊢
              have hlt9 := HG2.out.lts
              have hre := (hs6.block (W.heap.size + 1) (Gn.heap_lt HG2.out.res) (by omega)).trans HG2.out.res
              have q0 := cell_of_row _ _ 0 _ _ (0, 0) hre
              have q1 := cell_of_row _ _ 1 _ _ (0, 0) hre
              have qf0 := Gn.frozen_row hre 0
              have qf1 := Gn.frozen_row hre 1
              have HRS := Lib.hid (res_set hre (.int .i64 0) (.slice none 0 0))
              have HSF := Lib.hid (HG2.out.sep.trans (hs6.mono HG2.out.sep.size))
              clear hre hs6
              go_wp2_with fail
              refine bodyPost_ret (results_cell_tmp (P := Try.prog) rfl _ _ (W.heap.size + 1) 39 _ (0, 0) _ _ rfl rfl HRS.out Try.underlying39 rfl (by kernel_rfl)) rfl ?_
              exact ⟨(HSF.out.setCell (.inr (by simp)) _).setCell (.inr (by simp)) _, _, _, _, _, rfl⟩
            refine AllReadyH.cons rfl (fun K hK => ?_) AllReadyH.nil
            · go_simp
              refine hK.out _ _ (HMK.out _ (Sep.of_below (by first | exact Gn.below_drew ((Below.refl _ _).alloc (Nat.le_refl _) _) | exact (Gn.below_drew (Below.refl _ _)).alloc (by simp) _))) (fun hHeld => ?_)
              clear hK K
              try simp only [Act.put, List.setIfInBounds_toArray, List.set_cons_zero, List.set_cons_succ]
              refine wpAnyH_ready (rs := [7]) (by kernel_rfl) (by simp) ?_
              refine AllReadyH.cons rfl (fun K hK => ?_) AllReadyH.nil
              go_simp
              go_at_call 31
              refine (HCA.out _ (by first | exact Gn.below_drew (Below.refl _ _) | exact Gn.below_drew ((Below.refl _ _).alloc (Nat.le_refl _) _) | exact (Gn.below_drew (Below.refl _ _)).alloc (by simp) _)).mono ?_
              rintro e w5 ⟨n5, A5, m5, c5, rfl, hs5, hz5, hb5⟩
              have hp := (hb5 wr.heap.size (by simp) (by omega)).trans (heap_alloc_new wr (.cells #[.int .i64 0, .slice none 0 0] 39))
              have pc0 := cell_of_row _ _ 0 _ _ (0, 0) hp
              have pc1 := cell_of_row _ _ 1 _ _ (0, 0) hp
              have pf0 := Gn.frozen_row hp 0
              have pf1 := Gn.frozen_row hp 1
              refine hK.out _ _ (HMK.out _ hs5) (fun hHeld => ?_)
              clear hK K
              try simp only [Act.put, List.setIfInBounds_toArray, List.set_cons_zero, List.set_cons_succ]
              refine wpAnyH_take (i := 8) (v := ?_) rfl (by kernel_rfl) (by kernel_rfl) (by kernel_rfl) (fun _ _ _ h => h) (Or.inl ⟨by rfl, ?_⟩) (by assumption) ?_
              rotate_left
              · intro w hSw
                try dsimp only at hSw
                go_simp
                try with_reducible rfl
              try simp only [Act.put, List.setIfInBounds_toArray, List.set_cons_zero, List.set_cons_succ]
              refine wpAnyH_take (i := 9) (v := ?_) rfl (by kernel_rfl) (by kernel_rfl) (by kernel_rfl) (fun _ _ _ h => h) (Or.inl ⟨by rfl, ?_⟩) (by assumption) ?_
              rotate_left
              · intro w hSw
                try dsimp only at hSw
                go_simp
                try with_reducible rfl
              try simp only [Act.put, List.setIfInBounds_toArray, List.set_cons_zero, List.set_cons_succ]
              refine wpAnyH_take (i := 10) (v := ?_) rfl (by kernel_rfl) (by kernel_rfl) (by kernel_rfl) (fun _ _ _ h => h) (Or.inl ⟨by rfl, ?_⟩) (by assumption) ?_
              rotate_left
              · intro w hSw
                try dsimp only at hSw
                go_simp
                try with_reducible rfl
              try simp only [Act.put, List.setIfInBounds_toArray, List.set_cons_zero, List.set_cons_succ]
              refine wpAnyH_ready (rs := [12]) (by kernel_rfl) (by simp) ?_
              refine AllReadyH.cons rfl (fun K hK => ?_) AllReadyH.nil
              go_simp
              refine hK.out _ _ (HMK.out _ ((hs5.setCell (.inr (Nat.le_refl _)) _).setCell (.inr (Nat.le_refl _)) _)) (fun hHeld => ?_)
              clear hK K
              try simp only [Act.put, List.setIfInBounds_toArray, List.set_cons_zero, List.set_cons_succ]
              refine wpAnyH_ready (rs := [13]) (by kernel_rfl) (by simp) ?_
              refine AllReadyH.cons rfl (fun K hK => ?_) AllReadyH.nil
              go_simp
              refine hK.out _ _ (hHeld) (fun hHeld => ?_)
              clear hK K
              try simp only [Act.put, List.setIfInBounds_toArray, List.set_cons_zero, List.set_cons_succ]
              refine wpAnyH_done (by kernel_rfl) ?_ _
              refine NoPanic.normal ?_
              clear hHeld
              have hs6 : Sep ab wr.heap.size wr ((w5.setCell ⟨wr.heap.size, 0, none⟩ (.int .i64 n5)).setCell ⟨wr.heap.size, 1, none⟩ (.slice A5 m5 c5)) := (hs5.setCell (.inr (Nat.le_refl _)) _).setCell (.inr (Nat.le_refl _)) _
              generalize ((w5.setCell ⟨wr.heap.size, 0, none⟩ (.int .i64 n5)).setCell ⟨wr.heap.size, 1, none⟩ (.slice A5 m5 c5)) = w6 at hs6 ⊢
              have hlt9 := HG2.out.lts
              have hre := (hs6.block (W.heap.size + 1) (Gn.heap_lt HG2.out.res) (by omega)).trans HG2.out.res
              have q0 := cell_of_row _ _ 0 _ _ (0, 0) hre
              have q1 := cell_of_row _ _ 1 _ _ (0, 0) hre
              have qf0 := Gn.frozen_row hre 0
              have qf1 := Gn.frozen_row hre 1
              have HRS := Lib.hid (res_set hre (.int .i64 0) (.slice none 0 0))
              have HSF := Lib.hid (HG2.out.sep.trans (hs6.mono HG2.out.sep.size))
              clear hre hs6
              go_wp2_with fail
              refine bodyPost_ret (results_cell_tmp (P := Try.prog) rfl _ _ (W.heap.size + 1) 39 _ (0, 0) _ _ rfl rfl HRS.out Try.underlying39 rfl (by kernel_rfl)) rfl ?_
              exact ⟨(HSF.out.setCell (.inr (by simp)) _).setCell (.inr (by simp)) _, _, _, _, _, rfl⟩
          · have hR6 := Lib.hid (show R = wrapG (n1 : Nat) (growKids (grownT g cs f) (ys.drop (q + 1)) k3 (acc ++ [t])) by rw [HRK.out, HDR.out, growKids, hT])
            have hgo := Lib.hid (grown_ok HF.out.sides cs f y k2 t k3 HYL.out hk4 hT)
            have HCA := Lib.hid (fun (X : World) (hX : Below wr.heap.size wr X) => (HBS.out X hX).mono fun e w' h => show ∃ x yv, e = .returned (.tuple #[.agg #[x, yv], .bool true]) ∧ TrAt (fun r => X.heap.size ≤ r) w' t x yv ∧ w'.heap[ab]? = some (.cells #[.int .i64 (k3 : Nat)] 3 (0, 0)) ∧ Sep ab wr.heap.size wr w' ∧ X.heap.size ≤ w'.heap.size ∧ ∀ j, j < X.heap.size → j ≠ ab → w'.heap[j]? = X.heap[j]? from (by
              rw [hT] at h
              obtain ⟨h1, x, yv, h2, h3, h4⟩ := h
              exact ⟨x, yv, h2, h3, h4, (Sep.of_below (g := ab) hX).trans (h1.mono hX.size), h1.size, fun j hj hja => h1.block j hj hja⟩))
            clear hT HBS
            refine wp_region_noPanic ?_
            refine wp_region_held_drew (S := (fun w' : World => w'.cell? ⟨W.heap.size, 0, none⟩ = some (.int .i64 st) ∧ w'.cell? ⟨W.heap.size, 1, none⟩ = some (.int .i64 ru) ∧ w'.cell? ⟨W.heap.size, 2, none⟩ = some (.slice An ln cn) ∧ w'.cell? ⟨W.heap.size, 3, none⟩ = some (.slice At_ lt ct) ∧ w'.cell? ⟨W.heap.size, 4, none⟩ = some (.slice (some ⟨bb, 0, none⟩) i cp) ∧ w'.cell? ⟨b9, q, none⟩ = some (.int .i64 y))) (by kernel_rfl) ?_ (fun hHeld => ?_)
            · exact HMK.out _ (Sep.of_below (Gn.below_drew (Below.refl _ _)))
            refine wpAnyH_take (i := 0) (v := ?_) rfl (by kernel_rfl) (by kernel_rfl) (by kernel_rfl) (fun _ _ _ h => h) (Or.inl ⟨by rfl, ?_⟩) (by assumption) ?_
            rotate_left
            · intro w hSw
              try dsimp only at hSw
              go_simp
              try with_reducible rfl
            try simp only [Act.put, List.setIfInBounds_toArray, List.set_cons_zero, List.set_cons_succ]
            refine wpAnyH_take (i := 1) (v := ?_) rfl (by kernel_rfl) (by kernel_rfl) (by kernel_rfl) (fun _ _ _ h => h) (Or.inl ⟨by rfl, ?_⟩) (by assumption) ?_
            rotate_left
            · intro w hSw
              try dsimp only at hSw
              go_simp
              try with_reducible rfl
            try simp only [Act.put, List.setIfInBounds_toArray, List.set_cons_zero, List.set_cons_succ]
            refine wpAnyH_take (i := 2) (v := ?_) rfl (by kernel_rfl) (by kernel_rfl) (by kernel_rfl) (fun _ _ _ h => h) (Or.inl ⟨by rfl, ?_⟩) (by assumption) ?_
            rotate_left
            · intro w hSw
              try dsimp only at hSw
              go_simp
              try with_reducible rfl
            try simp only [Act.put, List.setIfInBounds_toArray, List.set_cons_zero, List.set_cons_succ]
            refine wpAnyH_take (i := 3) (v := ?_) rfl (by kernel_rfl) (by kernel_rfl) (by kernel_rfl) (fun _ _ _ h => h) (Or.inl ⟨by rfl, ?_⟩) (by assumption) ?_
            rotate_left
            · intro w hSw
              try dsimp only at hSw
              go_simp
              try with_reducible rfl
            try simp only [Act.put, List.setIfInBounds_toArray, List.set_cons_zero, List.set_cons_succ]
            refine wpAnyH_take (i := 4) (v := ?_) rfl (by kernel_rfl) (by kernel_rfl) (by kernel_rfl) (fun _ _ _ h => h) (Or.inl ⟨by rfl, ?_⟩) (by assumption) ?_
            rotate_left
            · intro w hSw
              try dsimp only at hSw
              go_simp
              try with_reducible rfl
            try simp only [Act.put, List.setIfInBounds_toArray, List.set_cons_zero, List.set_cons_succ]
            refine wpAnyH_take (i := 5) (v := ?_) rfl (by kernel_rfl) (by kernel_rfl) (by kernel_rfl) (fun _ _ _ h => h) (Or.inl ⟨by rfl, ?_⟩) (by assumption) ?_
            rotate_left
            · intro w hSw
              try dsimp only at hSw
              go_simp
              try with_reducible rfl
            try simp only [Act.put, List.setIfInBounds_toArray, List.set_cons_zero, List.set_cons_succ]
            refine wpAnyH_take (i := 6) (v := ?_) rfl (by kernel_rfl) (by kernel_rfl) (by kernel_rfl) (fun _ _ _ h => h) (Or.inl ⟨by rfl, ?_⟩) (by assumption) ?_
            rotate_left
            · intro w hSw
              try dsimp only at hSw
              go_simp
              try with_reducible rfl
            try simp only [Act.put, List.setIfInBounds_toArray, List.set_cons_zero, List.set_cons_succ]
            refine wpAnyH_ready (rs := [7, 11]) (by kernel_rfl) (by simp) ?_
            refine AllReadyH.cons rfl (fun K hK => ?_) ?_
            · go_simp
              go_at_call 31
              refine (HCA.out _ (by first | exact Gn.below_drew (Below.refl _ _) | exact Gn.below_drew ((Below.refl _ _).alloc (Nat.le_refl _) _) | exact (Gn.below_drew (Below.refl _ _)).alloc (by simp) _)).mono ?_
              rintro e w5 ⟨x5, y5, rfl, ht5, ha5, hs5, hz5, hb5⟩
              obtain ⟨n5, A5, m5, c5, rfl, rfl⟩ := ht5.form
              refine hK.out _ _ (HMK.out _ hs5) (fun hHeld => ?_)
              clear hK K
              try simp only [Act.put, List.setIfInBounds_toArray, List.set_cons_zero, List.set_cons_succ]
              refine wpAnyH_take (i := 8) (v := ?_) rfl (by kernel_rfl) (by kernel_rfl) (by kernel_rfl) (fun _ _ _ h => h) (Or.inl ⟨by rfl, ?_⟩) (by assumption) ?_
              rotate_left
              · intro w hSw
                try dsimp only at hSw
                go_simp
                try with_reducible rfl
              try simp only [Act.put, List.setIfInBounds_toArray, List.set_cons_zero, List.set_cons_succ]
              refine wpAnyH_take (i := 9) (v := ?_) rfl (by kernel_rfl) (by kernel_rfl) (by kernel_rfl) (fun _ _ _ h => h) (Or.inl ⟨by rfl, ?_⟩) (by assumption) ?_
              rotate_left
              · intro w hSw
                try dsimp only at hSw
                go_simp
                try with_reducible rfl
              try simp only [Act.put, List.setIfInBounds_toArray, List.set_cons_zero, List.set_cons_succ]
              refine wpAnyH_take (i := 10) (v := ?_) rfl (by kernel_rfl) (by kernel_rfl) (by kernel_rfl) (fun _ _ _ h => h) (Or.inl ⟨by rfl, ?_⟩) (by assumption) ?_
              rotate_left
              · intro w hSw
                try dsimp only at hSw
                go_simp
                try with_reducible rfl
              try simp only [Act.put, List.setIfInBounds_toArray, List.set_cons_zero, List.set_cons_succ]
              refine wpAnyH_ready (rs := [11]) (by kernel_rfl) (by simp) ?_
              refine AllReadyH.cons rfl (fun K hK => ?_) AllReadyH.nil
              go_simp
              refine hK.out _ _ (HMK.out _ (Sep.alloc2 hs5 _)) (fun hHeld => ?_)
              clear hK K
              try simp only [Act.put, List.setIfInBounds_toArray, List.set_cons_zero, List.set_cons_succ]
              refine wpAnyH_ready (rs := [12]) (by kernel_rfl) (by simp) ?_
              refine AllReadyH.cons rfl (fun K hK => ?_) AllReadyH.nil
              go_simp
              refine hK.out _ _ (HMK.out _ (Sep.alloc2 hs5 _)) (fun hHeld => ?_)
              clear hK K
              try simp only [Act.put, List.setIfInBounds_toArray, List.set_cons_zero, List.set_cons_succ]
              refine wpAnyH_ready (rs := [13]) (by kernel_rfl) (by simp) ?_
              refine AllReadyH.cons rfl (fun K hK => ?_) AllReadyH.nil
              go_simp
              refine hK.out _ _ (hHeld) (fun hHeld => ?_)
              clear hK K
              try simp only [Act.put, List.setIfInBounds_toArray, List.set_cons_zero, List.set_cons_succ]
              refine wpAnyH_done (by kernel_rfl) ?_ _
              refine NoPanic.normal ?_
              clear hHeld
              have hs6 : Sep ab wr.heap.size wr (w5.alloc (.cells #[.int .i64 n5, .slice A5 m5 c5] 39)) := Sep.alloc2 hs5 _
              have hp6 : (w5.alloc (.cells #[.int .i64 n5, .slice A5 m5 c5] 39)).heap[w5.heap.size]? = some (.cells #[.int .i64 n5, .slice A5 m5 c5] 39 (0, 0)) := heap_alloc_new _ _
              have ha6 := (heap_alloc_old w5 (.cells #[.int .i64 n5, .slice A5 m5 c5] 39) (Gn.heap_lt ha5)).trans ha5
              have ht6 : TrAt (fun r => wr.heap.size ≤ r) (w5.alloc (.cells #[.int .i64 n5, .slice A5 m5 c5] 39)) t (.int .i64 n5) (.slice A5 m5 c5) := ht5.keep (by simp) fun r hr hrz => by
                have hr2 : wr.heap.size ≤ r := by have h := hr; simp at h; omega
                exact ⟨hr2, fun j => Gn.cell_same (heap_alloc_old w5 _ hrz) j⟩
              obtain ⟨pp, hpp⟩ : ∃ pp, pp = w5.heap.size := ⟨_, rfl⟩
              rw [← hpp] at hp6
              have HPP := Lib.hid hpp
              generalize hE : (w5.alloc (.cells #[.int .i64 n5, .slice A5 m5 c5] 39)) = w6 at *
              have hga6 := HG2.out.call hs6 ha6
              have z0 := cell_of_row _ _ 0 _ _ (0, 0) hp6
              have z1 := cell_of_row _ _ 1 _ _ (0, 0) hp6
              rw [HPP.out] at z0 z1
              have d0 := cell_of_row _ _ 0 _ _ (0, 0) hga6.box
              have d1 := cell_of_row _ _ 1 _ _ (0, 0) hga6.box
              obtain ⟨vs, hv1, hv2, hv3⟩ := hga6.items
              have HV := Lib.hid hv2
              have HGA6 := Lib.hid hga6
              have HT6 := Lib.hid ht6
              have HOWN := Lib.hid HG2.out.items.own_lt
              have htbz : tb + 1 ≤ wr.heap.size := Gn.heap_lt HG2.out.box
              have hz6 : wr.heap.size ≤ w6.heap.size := hs6.size
              have hacl : acc.length ≤ 7 := by rw [HAL.out]; omega
              clear hE hga6 hp6 ha6 ht6 ht5 ha5 hs5 hs6 hz5 hb5 hv1 hv2 hv3 hpp
              go_wp2_with (at_builtin; refine wpList_append_lies _ rfl _ _ 37 rfl (tb + 1) 39 j0 _ 2 32 Try.underlying37 hj0 hy0 hy1 hy2 rfl (by decide) (.slice A acc.length c) acc.length (Fx.cells2 vs) rfl (HV.out.alloc _) ⟨w6.heap.size, 0, none⟩ 1 1 [.int .i64 n5, .slice A5 m5 c5] rfl rfl (Gn.row_new w6 [.int .i64 n5, .slice A5 m5 c5] 39 w6.heap.size rfl) (by simp [Value.oneCell']) (by decide) (by unfold maxLen; omega) (by omega) (by simp; omega) _ rfl ?_; intro gq cap4 w4 hown4 hgrow4 hat4 hlt4; have h4 := HGA6.out.snoc (lo := wr.heap.size) (t := t) (gq := gq) (c' := cap4) htbz (fun k hk => (HOWN.out k hk).1) HT6.out (fun vs4 hv4 => by rw [Gn.owns_uniq hv4 HV.out]; exact hown4) hgrow4 hat4; have u9 : w4.cell? ⟨tb, 1, none⟩ = some (.slice A acc.length c) := cell_of_row _ _ 1 _ _ (0, 0) h4.1; have uf9 := Gn.frozen_row h4.1 1; have H4 := Lib.hid h4.2; clear h4 hown4 hgrow4 hat4 hlt4)
              go_roundw
              case rel => exact ⟨q + 1, some ⟨gq, 0, none⟩, cap4, acc ++ [t], k3, by omega, by simp, H4.out, by simp [HAL.out], hR6.out, by have := hgo.out.1; omega, hgo.out.2.1⟩
              case measure => simp [intOf]; omega
            refine AllReadyH.cons rfl (fun K hK => ?_) AllReadyH.nil
            · go_simp
              refine hK.out _ _ (HMK.out _ (Sep.of_below (by first | exact Gn.below_drew ((Below.refl _ _).alloc (Nat.le_refl _) _) | exact (Gn.below_drew (Below.refl _ _)).alloc (by simp) _))) (fun hHeld => ?_)
              clear hK K
              try simp only [Act.put, List.setIfInBounds_toArray, List.set_cons_zero, List.set_cons_succ]
              refine wpAnyH_ready (rs := [7]) (by kernel_rfl) (by simp) ?_
              refine AllReadyH.cons rfl (fun K hK => ?_) AllReadyH.nil
              go_simp
              go_at_call 31
              refine (HCA.out _ (by first | exact Gn.below_drew (Below.refl _ _) | exact Gn.below_drew ((Below.refl _ _).alloc (Nat.le_refl _) _) | exact (Gn.below_drew (Below.refl _ _)).alloc (by simp) _)).mono ?_
              rintro e w5 ⟨x5, y5, rfl, ht5, ha5, hs5, hz5, hb5⟩
              have hp := (hb5 wr.heap.size (by simp) (by omega)).trans (heap_alloc_new wr (.cells #[.int .i64 0, .slice none 0 0] 39))
              obtain ⟨n5, A5, m5, c5, rfl, rfl⟩ := ht5.form
              have pc0 := cell_of_row _ _ 0 _ _ (0, 0) hp
              have pc1 := cell_of_row _ _ 1 _ _ (0, 0) hp
              have pf0 := Gn.frozen_row hp 0
              have pf1 := Gn.frozen_row hp 1
              refine hK.out _ _ (HMK.out _ hs5) (fun hHeld => ?_)
              clear hK K
              try simp only [Act.put, List.setIfInBounds_toArray, List.set_cons_zero, List.set_cons_succ]
              refine wpAnyH_take (i := 8) (v := ?_) rfl (by kernel_rfl) (by kernel_rfl) (by kernel_rfl) (fun _ _ _ h => h) (Or.inl ⟨by rfl, ?_⟩) (by assumption) ?_
              rotate_left
              · intro w hSw
                try dsimp only at hSw
                go_simp
                try with_reducible rfl
              try simp only [Act.put, List.setIfInBounds_toArray, List.set_cons_zero, List.set_cons_succ]
              refine wpAnyH_take (i := 9) (v := ?_) rfl (by kernel_rfl) (by kernel_rfl) (by kernel_rfl) (fun _ _ _ h => h) (Or.inl ⟨by rfl, ?_⟩) (by assumption) ?_
              rotate_left
              · intro w hSw
                try dsimp only at hSw
                go_simp
                try with_reducible rfl
              try simp only [Act.put, List.setIfInBounds_toArray, List.set_cons_zero, List.set_cons_succ]
              refine wpAnyH_take (i := 10) (v := ?_) rfl (by kernel_rfl) (by kernel_rfl) (by kernel_rfl) (fun _ _ _ h => h) (Or.inl ⟨by rfl, ?_⟩) (by assumption) ?_
              rotate_left
              · intro w hSw
                try dsimp only at hSw
                go_simp
                try with_reducible rfl
              try simp only [Act.put, List.setIfInBounds_toArray, List.set_cons_zero, List.set_cons_succ]
              refine wpAnyH_ready (rs := [12]) (by kernel_rfl) (by simp) ?_
              refine AllReadyH.cons rfl (fun K hK => ?_) AllReadyH.nil
              go_simp
              refine hK.out _ _ (HMK.out _ ((hs5.setCell (.inr (Nat.le_refl _)) _).setCell (.inr (Nat.le_refl _)) _)) (fun hHeld => ?_)
              clear hK K
              try simp only [Act.put, List.setIfInBounds_toArray, List.set_cons_zero, List.set_cons_succ]
              refine wpAnyH_ready (rs := [13]) (by kernel_rfl) (by simp) ?_
              refine AllReadyH.cons rfl (fun K hK => ?_) AllReadyH.nil
              go_simp
              refine hK.out _ _ (hHeld) (fun hHeld => ?_)
              clear hK K
              try simp only [Act.put, List.setIfInBounds_toArray, List.set_cons_zero, List.set_cons_succ]
              refine wpAnyH_done (by kernel_rfl) ?_ _
              refine NoPanic.normal ?_
              clear hHeld
              have hs6 : Sep ab wr.heap.size wr ((w5.setCell ⟨wr.heap.size, 0, none⟩ (.int .i64 n5)).setCell ⟨wr.heap.size, 1, none⟩ (.slice A5 m5 c5)) := (hs5.setCell (.inr (Nat.le_refl _)) _).setCell (.inr (Nat.le_refl _)) _
              have hk6 : ∀ j, j ≠ wr.heap.size → ((w5.setCell ⟨wr.heap.size, 0, none⟩ (.int .i64 n5)).setCell ⟨wr.heap.size, 1, none⟩ (.slice A5 m5 c5)).heap[j]? = w5.heap[j]? := fun j hj => (Gn.set_keep _ 1 _ (Ne.symm hj)).trans (Gn.set_keep _ 0 _ (Ne.symm hj))
              have hp6 : ((w5.setCell ⟨wr.heap.size, 0, none⟩ (.int .i64 n5)).setCell ⟨wr.heap.size, 1, none⟩ (.slice A5 m5 c5)).heap[wr.heap.size]? = some (.cells #[.int .i64 n5, .slice A5 m5 c5] 39 (0, 0)) := res_set hp _ _
              have ha6 := (hk6 ab (by omega)).trans ha5
              have ht6 : TrAt (fun r => wr.heap.size ≤ r) ((w5.setCell ⟨wr.heap.size, 0, none⟩ (.int .i64 n5)).setCell ⟨wr.heap.size, 1, none⟩ (.slice A5 m5 c5)) t (.int .i64 n5) (.slice A5 m5 c5) := ht5.keep (by simp [World.setCell]) fun r hr hrz => by
                have hr2 : wr.heap.size + 1 ≤ r := by have h := hr; simp at h; omega
                exact ⟨by omega, fun j => Gn.cell_same (hk6 r (by omega)) j⟩
              have hpp : True := trivial
              clear hk6 hp pc0 pc1 pf0 pf1
              generalize hE : ((w5.setCell ⟨wr.heap.size, 0, none⟩ (.int .i64 n5)).setCell ⟨wr.heap.size, 1, none⟩ (.slice A5 m5 c5)) = w6 at *
              have hga6 := HG2.out.call hs6 ha6
              have z0 := cell_of_row _ _ 0 _ _ (0, 0) hp6
              have z1 := cell_of_row _ _ 1 _ _ (0, 0) hp6
              have hz9 := True.intro
              have d0 := cell_of_row _ _ 0 _ _ (0, 0) hga6.box
              have d1 := cell_of_row _ _ 1 _ _ (0, 0) hga6.box
              obtain ⟨vs, hv1, hv2, hv3⟩ := hga6.items
              have HV := Lib.hid hv2
              have HGA6 := Lib.hid hga6
              have HT6 := Lib.hid ht6
              have HOWN := Lib.hid HG2.out.items.own_lt
              have htbz : tb + 1 ≤ wr.heap.size := Gn.heap_lt HG2.out.box
              have hz6 : wr.heap.size ≤ w6.heap.size := hs6.size
              have hacl : acc.length ≤ 7 := by rw [HAL.out]; omega
              clear hE hga6 hp6 ha6 ht6 ht5 ha5 hs5 hs6 hz5 hb5 hv1 hv2 hv3 hpp
              go_wp2_with (at_builtin; refine wpList_append_lies _ rfl _ _ 37 rfl (tb + 1) 39 j0 _ 2 32 Try.underlying37 hj0 hy0 hy1 hy2 rfl (by decide) (.slice A acc.length c) acc.length (Fx.cells2 vs) rfl (HV.out.alloc _) ⟨w6.heap.size, 0, none⟩ 1 1 [.int .i64 n5, .slice A5 m5 c5] rfl rfl (Gn.row_new w6 [.int .i64 n5, .slice A5 m5 c5] 39 w6.heap.size rfl) (by simp [Value.oneCell']) (by decide) (by unfold maxLen; omega) (by omega) (by simp; omega) _ rfl ?_; intro gq cap4 w4 hown4 hgrow4 hat4 hlt4; have h4 := HGA6.out.snoc (lo := wr.heap.size) (t := t) (gq := gq) (c' := cap4) htbz (fun k hk => (HOWN.out k hk).1) HT6.out (fun vs4 hv4 => by rw [Gn.owns_uniq hv4 HV.out]; exact hown4) hgrow4 hat4; have u9 : w4.cell? ⟨tb, 1, none⟩ = some (.slice A acc.length c) := cell_of_row _ _ 1 _ _ (0, 0) h4.1; have uf9 := Gn.frozen_row h4.1 1; have H4 := Lib.hid h4.2; clear h4 hown4 hgrow4 hat4 hlt4)
              go_roundw
              case rel => exact ⟨q + 1, some ⟨gq, 0, none⟩, cap4, acc ++ [t], k3, by omega, by simp, H4.out, by simp [HAL.out], hR6.out, by have := hgo.out.1; omega, hgo.out.2.1⟩
              case measure => simp [intOf]; omega
end Go.Proofs.Ytjlppffkacimoaa.Tr
