/-
  Layer 18: Enrol.
-/
import Derived.Test.YtnmhgjoofgmcgaaGreatRlCp
import Derived.Test.YtnmhgjoofgmcgaaGreatRlIns
import Derived.Test.YtnmhgjoofgmcgaaGreatRlGood
namespace Go.Proofs.YtnmhgjoofgmcgaaGreat.Rl
open Go.RowKit
open Fx (StrsAt)
set_option maxRecDepth 100000
set_option linter.unusedSimpArgs false
set_option linter.unusedVariables false
theorem results_ct {P : Program} {fn : Func} {p q : Tmp} {uy : TypeId} (h : fn.results = #[.cell q uy, .tmp p]) (tmps : Array Value) (w : World) (k : Nat) (u : TypeId) (ds : Array Value) (fs : Nat × Nat) (e : TypeDesc) (v : Value)
    (hp : tmps.getD p undef = v) (hq : tmps.getD q undef = .pointer (some ⟨k, 0, none⟩)) (hk : w.heap[k]? = some (.cells ds u fs))
    (hv : P.underlying uy = some e) (he : (match e with | .struct _ | .array _ _ => true | _ => false) = true) (hj : (P.info? uy).map (·.size) = some ds.size) :
    (results fn tmps).run P w = .ok (.tuple #[.agg ds, v]) w := by
  have hp' : tmps[p]?.getD undef = v := by simpa using hp
  have hq' : tmps[q]?.getD undef = .pointer (some ⟨k, 0, none⟩) := by simpa using hq
  simp [results, h, hp', hq', asAddr, run_loadVar_row w k u uy ds fs e hk hv he hj]
/-- What an office tells: the error's number, and the roll. -/
def codeOf : Except Nat Rol → Nat
  | .error c => c
  | .ok _ => 0
def rolOf : Except Nat Rol → Rol
  | .error _ => ⟨[], []⟩
  | .ok r => r
def OpOut (W : World) (R : Except Nat Rol) (e : Ending) (w : World) : Prop := ∃ v, e = .returned (.tuple #[v, .int .i64 (codeOf R : Nat)]) ∧ RlAt (fun b => W.heap.size ≤ b) w (rolOf R) v ∧ Below W.heap.size W w
/-- A roll that offices are asked of. -/
structure Sized (r : Rol) : Prop where
  ms : r.ms.length ≤ 4000
  cs : r.cs.length ≤ 4000
  studs : ∀ c ∈ r.cs, c.studs.length ≤ 4000
  names : Rising r.names
  classes : Rising r.classes
  rising : ∀ c ∈ r.cs, Rising c.studs
theorem rl_zero (P : Nat → Prop) (w : World) : RlAt P w ⟨[], []⟩ (.agg #[.slice none 0 0, .slice none 0 0]) :=
  ⟨_, _, rfl, RowAt.nil _ _ _, [], RowAt.nil _ _ _, rfl, fun i h _ => absurd h (by simp)⟩
theorem rl_done {w : World} {r : Rol} {raws : List CRaw} {vm vc : Value} {B : Nat} (hm : w.ownsRow B 45 3 vm r.ms.length (cellsOf encM r.ms)) (hc : w.ownsRow B 53 3 vc r.cs.length (cellsOf encC raws)) (ha : AllC (fun b => B ≤ b) w raws r.cs) : RlAt (fun b => B ≤ b) w r (.agg #[vm, vc]) :=
  ⟨vm, vc, rfl, RowAt.of_own encM_len hm, raws, RowAt.of_own (l := raws) encC_len (by rw [ha.1]; exact hc), ha⟩
theorem cellsOf_take {α : Type} {enc : α → List Value} (he : ∀ x, (enc x).length = 3) (l : List α) (k : Nat) (hk : k ≤ l.length) : cellsOf enc (l.take k) = (cellsOf enc l).take (k * 3) := by
  have h := cellsOf_app enc (l.take k) (l.drop k)
  rw [List.take_append_drop] at h
  have hl : (cellsOf enc (l.take k)).length = k * 3 := by rw [cellsOf_len he, List.length_take]; omega
  rw [h, ← hl, List.take_left]
theorem cellsOf_drop {α : Type} {enc : α → List Value} (he : ∀ x, (enc x).length = 3) (l : List α) (k : Nat) (hk : k ≤ l.length) : cellsOf enc (l.drop k) = (cellsOf enc l).drop (k * 3) := by
  have h := cellsOf_app enc (l.take k) (l.drop k)
  rw [List.take_append_drop] at h
  have hl : (cellsOf enc (l.take k)).length = k * 3 := by rw [cellsOf_len he, List.length_take]; omega
  rw [h, ← hl, List.drop_left]
theorem isRole_any (n : Int) (w : World) : Calls Tryz.prog 54 #[.int .i64 n] w fun e w' => e = .returned (.bool (decide (n = 1 ∨ n = 2))) ∧ w = w' := by
  by_cases h1 : n = 1
  · subst h1
    go_enter Tryz.func54, Tryz.ntmps54
    go_wp2
    go_ret
    exact ⟨rfl, rfl⟩
  · by_cases h2 : n = 2
    · subst h2
      go_enter Tryz.func54, Tryz.ntmps54
      go_wp2
      go_ret
      exact ⟨rfl, rfl⟩
    · have h3 : decide (n = 1 ∨ n = 2) = false := by rw [decide_eq_false_iff_not]; omega
      rw [h3]
      go_enter Tryz.func54, Tryz.ntmps54
      go_wp2
      go_ret
      refine ⟨congrArg (fun b => Ending.returned (Value.bool b)) (?_ : (n == 1 || n == 2) = false), rfl⟩
      simp [h1, h2]
def enrolM (r : Rol) (nm : ByteArray) (role : Int) : Except Nat Rol :=
  if Lx.goodB (Lx.bs nm) = false then .error 8
  else if decide (role = 1 ∨ role = 2) = false then .error 7
  else if hasN r.names nm = true then .error 9
  else if 256 ≤ r.ms.length then .error 12
  else .ok ⟨r.ms.take (plc r.names nm) ++ [⟨nm, role, 4096⟩] ++ r.ms.drop (plc r.names nm), r.cs⟩
set_option maxHeartbeats 16000000 in
theorem enrol_any (r : Rol) (nm : ByteArray) (role : Int) (hsz : Sized r) (hnm : nm.size ≤ 9223372036854775807) (P : Nat → Prop) (W : World) (v : Value) (h : RlAt P W r v) :
    Calls Tryz.prog 18 #[v, .string nm, .int .i64 role] W (OpOut W (enrolM r nm role)) := by
  obtain ⟨Am, cm, Ac, cc, rfl, hms, hcs⟩ := h.form
  obtain ⟨n, hnn⟩ : ∃ n, n = r.ms.length := ⟨_, rfl⟩
  obtain ⟨m, hmm⟩ : ∃ m, m = r.cs.length := ⟨_, rfl⟩
  rw [← hnn, ← hmm] at h ⊢
  clear hms hcs
  obtain ⟨V, hV⟩ : ∃ V, V = (W.alloc (.cells #[.slice Am n cm, .slice Ac m cc] 27)).alloc (.cells #[.slice none 0 0, .slice none 0 0] 27) := ⟨_, rfl⟩
  have hb : Below W.heap.size W V := by rw [hV]; exact ((Below.refl _ W).alloc (Nat.le_refl _) _).alloc (by simp) _
  have hz : V.heap.size = W.heap.size + 1 + 1 := by rw [hV]; simp
  have hx0 : V.heap[W.heap.size]? = some (.cells #[.slice Am n cm, .slice Ac m cc] 27 (0, 0)) := by rw [hV]; exact (heap_alloc_old _ _ (by simp)).trans (heap_alloc_new W _)
  have hx1 : V.heap[W.heap.size + 1]? = some (.cells #[.slice none 0 0, .slice none 0 0] 27 (0, 0)) := by
    rw [hV]; have := heap_alloc_new (W.alloc (.cells #[.slice Am n cm, .slice Ac m cc] 27)) (.cells #[.slice none 0 0, .slice none 0 0] 27); simpa using this
  obtain ⟨k, hk⟩ : ∃ k, k = plc r.names nm := ⟨_, rfl⟩
  obtain ⟨fd, hfd⟩ : ∃ fd, fd = hasN r.names nm := ⟨_, rfl⟩
  obtain ⟨gd, hgd⟩ : ∃ gd, gd = Lx.goodB (Lx.bs nm) := ⟨_, rfl⟩
  obtain ⟨rl, hrl⟩ : ∃ rl, rl = decide (role = 1 ∨ role = 2) := ⟨_, rfl⟩
  have hkn : k ≤ n := by
    rw [hk, hnn]
    have := plc_le nm r.names
    simpa [Rol.names] using this
  have HMB := Lib.hid (member_any r nm P V (.agg #[.slice Am n cm, .slice Ac m cc]) (h.under hb) hsz.names (by have := hsz.ms; omega))
  rw [← hk, ← hfd] at HMB
  have HGD := Lib.hid (fun w => Lx.good_any nm w hnm)
  rw [← hgd] at HGD
  have HRO := Lib.hid (fun w => isRole_any role w)
  rw [← hrl] at HRO
  have HCO := Lib.hid (fun (w : World) (b : Below W.heap.size W w) => copied_any r P w (.agg #[.slice Am n cm, .slice Ac m cc]) (h.under b) (by have := hsz.ms; omega) (by have := hsz.cs; omega) (fun c hc => by have := hsz.studs c hc; omega))
  have hn4 : n ≤ 4000 := by rw [hnn]; exact hsz.ms
  have hRe : enrolM r nm role = if gd = false then .error 8 else if rl = false then .error 7 else if fd = true then .error 9 else if 256 ≤ n then .error 12 else .ok ⟨r.ms.take k ++ [⟨nm, role, 4096⟩] ++ r.ms.drop k, r.cs⟩ := by
    unfold enrolM
    rw [← hgd, ← hrl, ← hfd, ← hnn, ← hk]
  have HRE := Lib.hid hRe
  have HNN := Lib.hid hnn
  have HMM := Lib.hid hmm
  have HV := Lib.hid hV
  have HB := Lib.hid hb
  have HX0 := Lib.hid hx0
  have HX1 := Lib.hid hx1
  have HZ := Lib.hid hz
  have x0 := cell_of_row _ _ 0 _ _ (0, 0) hx0
  have x1 := cell_of_row _ _ 1 _ _ (0, 0) hx0
  clear hV hb hx0 hx1 hz h hnn hmm hk hfd hgd hrl hRe hsz hnm
  go_enter Tryz.func18, Tryz.ntmps18
  go_upto_region 1 with fail
  rw [← HV.out]
  go_wp2_with fail
  refine HMB.out.mono ?_
  rintro e w2 ⟨rfl, hb2⟩
  have hy0 := (hb2.block _ (Gn.heap_lt HX0.out)).trans HX0.out
  have hy1 := (hb2.block _ (Gn.heap_lt HX1.out)).trans HX1.out
  have HY0 := Lib.hid hy0
  have HY1 := Lib.hid hy1
  have HB2 := Lib.hid (HB.out.trans (hb2.mono HB.out.size))
  have HS2 := Lib.hid hb2.size
  have r0 := cell_of_row _ _ 0 _ _ (0, 0) hy1
  have r1 := cell_of_row _ _ 1 _ _ (0, 0) hy1
  have g0 := Gn.frozen_row hy1 0
  have g1 := Gn.frozen_row hy1 1
  have HRS := Lib.hid (Gn.heap_set (Gn.heap_set hy1 0 (.slice none 0 0)) 1 (.slice none 0 0))
  have HBE := Lib.hid ((HB2.out.setCell (p := ⟨W.heap.size + 1, 0, none⟩) (by simp) (.slice none 0 0)).setCell (p := ⟨W.heap.size + 1, 1, none⟩) (by simp) (.slice none 0 0))
  clear hb2 hy0 hy1 x0 x1
  go_wp2_with fail
  refine (HGD.out w2).mono ?_
  rintro e w ⟨rfl, rfl⟩
  cases gd with
  | false =>
    have HR := Lib.hid (show enrolM r nm role = .error 8 by rw [HRE.out]; rfl)
    go_wp2_with fail
    refine bodyPost_ret (results_ct (P := Tryz.prog) rfl _ _ (W.heap.size + 1) 27 _ (0, 0) _ _ rfl rfl HRS.out Tryz.underlying27 rfl (by kernel_rfl)) rfl ?_
    rw [HR.out]
    exact ⟨_, rfl, rl_zero _ _, HBE.out⟩
  | true =>
    go_wp2_with fail
    refine (HRO.out _).mono ?_
    rintro e w ⟨rfl, rfl⟩
    cases rl with
    | false =>
      have HR := Lib.hid (show enrolM r nm role = .error 7 by rw [HRE.out]; rfl)
      go_wp2_with fail
      refine bodyPost_ret (results_ct (P := Tryz.prog) rfl _ _ (W.heap.size + 1) 27 _ (0, 0) _ _ rfl rfl HRS.out Tryz.underlying27 rfl (by kernel_rfl)) rfl ?_
      rw [HR.out]
      exact ⟨_, rfl, rl_zero _ _, HBE.out⟩
    | true =>
      cases fd with
      | true =>
        have HR := Lib.hid (show enrolM r nm role = .error 9 by rw [HRE.out]; rfl)
        go_wp2_with fail
        refine bodyPost_ret (results_ct (P := Tryz.prog) rfl _ _ (W.heap.size + 1) 27 _ (0, 0) _ _ rfl rfl HRS.out Tryz.underlying27 rfl (by kernel_rfl)) rfl ?_
        rw [HR.out]
        exact ⟨_, rfl, rl_zero _ _, HBE.out⟩
      | false =>
        have y0 := cell_of_row _ _ 0 _ _ (0, 0) HY0.out
        have y1 := cell_of_row _ _ 1 _ _ (0, 0) HY0.out
        by_cases hfull : 256 ≤ n
        · have hf2 : (256 : Int) ≤ (n : Int) := by omega
          have HR := Lib.hid (show enrolM r nm role = .error 12 by rw [HRE.out]; simp [hfull])
          go_wp2_with fail
          refine bodyPost_ret (results_ct (P := Tryz.prog) rfl _ _ (W.heap.size + 1) 27 _ (0, 0) _ _ rfl rfl HRS.out Tryz.underlying27 rfl (by kernel_rfl)) rfl ?_
          rw [HR.out]
          exact ⟨_, rfl, rl_zero _ _, HBE.out⟩
        · have hf2 : ¬ (256 : Int) ≤ (n : Int) := by omega
          have HR := Lib.hid (show enrolM r nm role = .ok ⟨r.ms.take k ++ [⟨nm, role, 4096⟩] ++ r.ms.drop k, r.cs⟩ by rw [HRE.out]; simp [hfull])
          clear r0 r1 g0 g1
          go_wp2_with fail
          refine (HCO.out w2 HB2.out).mono ?_
          rintro e w3 ⟨raws, vm, vc, rfl, hco, hb3⟩
          have hcm := hco.ms
          have hcc := hco.cs
          have hca := hco.all
          have hcn := hco.ne
          rw [← HNN.out] at hcm
          rw [← HMM.out] at hcc
          obtain ⟨A3, c3, rfl⟩ := Gn.slice_of hcm
          obtain ⟨A4, c4, rfl⟩ := Gn.slice_of hcc
          have hz9 : W.heap.size + 1 < w2.heap.size := Gn.heap_lt HY1.out
          have hq0 := (hb3.block _ (Gn.heap_lt HY0.out)).trans HY0.out
          have hq1 := (hb3.block _ (Gn.heap_lt HY1.out)).trans HY1.out
          obtain ⟨W4, hW4⟩ : ∃ W4, W4 = (w3.setCell ⟨W.heap.size, 0, none⟩ (.slice A3 n c3)).setCell ⟨W.heap.size, 1, none⟩ (.slice A4 m c4) := ⟨_, rfl⟩
          have hk4 : ∀ b, W.heap.size ≠ b → W4.heap[b]? = w3.heap[b]? := fun b hb => by rw [hW4]; exact (Gn.set_keep _ _ _ hb).trans (Gn.set_keep _ _ _ hb)
          have hs4 : W4.heap.size = w3.heap.size := by rw [hW4]; simp [World.setCell]
          have hp0 : W4.heap[W.heap.size]? = some (.cells #[.slice A3 n c3, .slice A4 m c4] 27 (0, 0)) := by rw [hW4]; exact Gn.heap_set (Gn.heap_set hq0 0 _) 1 _
          have hp1 : W4.heap[W.heap.size + 1]? = some (.cells #[.slice none 0 0, .slice none 0 0] 27 (0, 0)) := (hk4 _ (by omega)).trans hq1
          have hb4 : Below W.heap.size W W4 := by rw [hW4]; exact ((HB2.out.trans (hb3.mono HB2.out.size)).setCell (Nat.le_refl _) _).setCell (Nat.le_refl _) _
          have hom : W4.ownsRow w2.heap.size 45 3 (.slice A3 n c3) n (cellsOf encM r.ms) := own_keep hcm fun q hq => hk4 q (by have := Gn.own_block hcm q hq; omega)
          have hoc : W4.ownsRow w2.heap.size 53 3 (.slice A4 m c4) m (cellsOf encC raws) := own_keep hcc fun q hq => hk4 q (by have := Gn.own_block hcc q hq; omega)
          have hal : AllC (fun b => w2.heap.size ≤ b ∧ (Value.slice A3 n c3).ownBlock ≠ some b ∧ (Value.slice A4 m c4).ownBlock ≠ some b) W4 raws r.cs := hca.keep (by rw [hs4]; exact Nat.le_refl _) fun q hq _ => ⟨hq, fun j => Gn.cell_same (hk4 q (by omega)) j⟩
          have hs24 : w2.heap.size ≤ W4.heap.size := by rw [hs4]; exact hb3.size
          have HP0 := Lib.hid hp0
          have HP1 := Lib.hid hp1
          have HB4 := Lib.hid hb4
          have HOM := Lib.hid hom
          have HOC := Lib.hid hoc
          have HAL := Lib.hid hal
          have HNE := Lib.hid hcn
          have HS24 := Lib.hid hs24
          have HZ9 := Lib.hid hz9
          have c0 := cell_of_row _ _ 0 _ _ (0, 0) hq0
          have c1 := cell_of_row _ _ 1 _ _ (0, 0) hq0
          have d0 := Gn.frozen_row hq0 0
          have d1 := Gn.frozen_row hq0 1
          have HW4 := Lib.hid hW4
          clear hcm hcc hca hcn hco hb3 hq0 hq1 hk4 hs4 hp0 hp1 hb4 hom hoc hal hs24 hW4 y0 y1 hz9
          go_upto_region 11 with fail
          clear c0 c1 d0 d1
          rw [← HW4.out]
          have c0 := cell_of_row _ _ 0 _ _ (0, 0) HP0.out
          have c1 := cell_of_row _ _ 1 _ _ (0, 0) HP0.out
          obtain ⟨W5, hW5⟩ : ∃ W5, W5 = W4.alloc (.cells #[.string nm, .int .i64 role, .int .i64 4096] 45) := ⟨_, rfl⟩
          have hb5 : Below W4.heap.size W4 W5 := by rw [hW5]; exact (Below.refl _ _).alloc (Nat.le_refl _) _
          have hv5 : W5.heap[W4.heap.size]? = some (.cells #[.string nm, .int .i64 role, .int .i64 4096] 45 (0, 0)) := by rw [hW5]; exact heap_alloc_new _ _
          have hom5 : W5.ownsRow w2.heap.size 45 3 (.slice A3 n c3) n (cellsOf encM r.ms) := own_keep HOM.out fun q hq => hb5.block q (Gn.own_lt HOM.out q hq)
          have HINS := Lib.hid (ins_Mem_any w2.heap.size W5 (.slice A3 n c3) n k (cellsOf encM r.ms) (encM ⟨nm, role, 4096⟩) W4.heap.size hom5 (Nat.le_trans HS24.out hb5.size) hkn (by omega) hv5 rfl (fun e => by have := Gn.own_lt HOM.out _ e; omega) (cell_one encM_one r.ms) (encM_one _))
          have HB5 := Lib.hid hb5
          have HW5 := Lib.hid hW5
          have x0 := (hb5.cell (p := ⟨W.heap.size, 0, none⟩) (Gn.heap_lt HP0.out)).trans c0
          clear hb5 hv5 hom5 hW5
          go_wp2_with fail
          refine (by rw [← HW5.out]; exact HINS.out : Calls _ _ _ _ _).mono ?_
          rintro e w6 ⟨v6, rfl, ho6, hg6⟩
          obtain ⟨A6, c6, rfl⟩ := Gn.slice_of ho6
          have hom9 := Gn.own_block HOM.out
          have hz9 := HZ9.out
          have hs45 := HB5.out.size
          have h64 : ∀ q, q < W4.heap.size → (Value.slice A3 n c3).ownBlock ≠ some q → w6.heap[q]? = W4.heap[q]? := fun q hq hne => (hg6.block q (by omega) (fun e => hne e.symm)).trans (HB5.out.block q hq)
          have hp0 : w6.heap[W.heap.size]? = some (.cells #[.slice A3 n c3, .slice A4 m c4] 27 (0, 0)) := (h64 _ (Gn.heap_lt HP0.out) (fun e => by have := hom9 _ e; omega)).trans HP0.out
          have hp1 : w6.heap[W.heap.size + 1]? = some (.cells #[.slice none 0 0, .slice none 0 0] 27 (0, 0)) := (h64 _ (Gn.heap_lt HP1.out) (fun e => by have := hom9 _ e; omega)).trans HP1.out
          obtain ⟨W8, hW8⟩ : ∃ W8, W8 = ((w6.setCell ⟨W.heap.size, 0, none⟩ (.slice A6 (n + 1) c6)).setCell ⟨W.heap.size + 1, 0, none⟩ (.slice A6 (n + 1) c6)).setCell ⟨W.heap.size + 1, 1, none⟩ (.slice A4 m c4) := ⟨_, rfl⟩
          have hk8 : ∀ b, W.heap.size ≠ b → W.heap.size + 1 ≠ b → W8.heap[b]? = w6.heap[b]? := fun b h1 h2 => by rw [hW8]; exact (Gn.set_keep _ _ _ h2).trans ((Gn.set_keep _ _ _ h2).trans (Gn.set_keep _ _ _ h1))
          have hs8 : W8.heap.size = w6.heap.size := by rw [hW8]; simp [World.setCell]
          have hq0 : (w6.setCell ⟨W.heap.size, 0, none⟩ (.slice A6 (n + 1) c6)).heap[W.heap.size]? = some (.cells #[.slice A6 (n + 1) c6, .slice A4 m c4] 27 (0, 0)) := Gn.heap_set hp0 0 _
          have hq1 : (w6.setCell ⟨W.heap.size, 0, none⟩ (.slice A6 (n + 1) c6)).heap[W.heap.size + 1]? = some (.cells #[.slice none 0 0, .slice none 0 0] 27 (0, 0)) := (Gn.set_keep _ _ _ (by omega)).trans hp1
          have hres : W8.heap[W.heap.size + 1]? = some (.cells #[.slice A6 (n + 1) c6, .slice A4 m c4] 27 (0, 0)) := by rw [hW8]; exact Gn.heap_set (Gn.heap_set hq1 0 _) 1 _
          have hbel : Below W.heap.size W W8 := by
            have h1 : Below W.heap.size W w6 := ⟨hg6.os.trans (HB5.out.os.trans HB4.out.os), hg6.tape.trans (HB5.out.tape.trans HB4.out.tape), hg6.output.trans (HB5.out.output.trans HB4.out.output), Nat.le_trans HB4.out.size (Nat.le_trans hs45 hg6.size), fun q hq => (h64 q (by have := HB4.out.size; omega) (fun e => by have := hom9 _ e; omega)).trans (HB4.out.block q hq)⟩
            rw [hW8]
            exact ((h1.setCell (Nat.le_refl _) _).setCell (by simp) _).setCell (by simp) _
          have hfin : OpOut W (enrolM r nm role) (.returned (.tuple #[.agg #[.slice A6 (n + 1) c6, .slice A4 m c4], .int .i64 0])) W8 := by
            rw [HR.out]
            have hkm : k ≤ r.ms.length := by rw [← HNN.out]; exact hkn
            have hlen : (r.ms.take k ++ [(⟨nm, role, 4096⟩ : Mem)] ++ r.ms.drop k).length = n + 1 := by
              rw [List.length_append, List.length_append, List.length_take, List.length_drop, HNN.out]
              simp only [List.length_singleton]
              omega
            have hm8 : W8.ownsRow w2.heap.size 45 3 (.slice A6 (n + 1) c6) (r.ms.take k ++ [(⟨nm, role, 4096⟩ : Mem)] ++ r.ms.drop k).length (cellsOf encM (r.ms.take k ++ [⟨nm, role, 4096⟩] ++ r.ms.drop k)) := by
              rw [hlen, cellsOf_app, cellsOf_app, cellsOf_take encM_len _ _ hkm, cellsOf_drop encM_len _ _ hkm]
              exact own_keep ho6 fun q hq => hk8 q (by have := Gn.own_block ho6 q hq; omega) (by have := Gn.own_block ho6 q hq; omega)
            have hc8 : W8.ownsRow w2.heap.size 53 3 (.slice A4 m c4) r.cs.length (cellsOf encC raws) := by
              rw [← HMM.out]
              exact own_keep HOC.out fun q hq => (hk8 q (by have := Gn.own_block HOC.out q hq; omega) (by have := Gn.own_block HOC.out q hq; omega)).trans (h64 q (Gn.own_lt HOC.out q hq) (fun e => HNE.out q e hq))
            have ha8 : AllC (fun b => w2.heap.size ≤ b) W8 raws r.cs := HAL.out.keep (by rw [hs8]; exact Nat.le_trans hs45 hg6.size) fun q hq hql => ⟨hq.1, fun j => Gn.cell_same ((hk8 q (by omega) (by omega)).trans (h64 q hql hq.2.1)) j⟩
            exact ⟨_, rfl, (rl_done (r := ⟨r.ms.take k ++ [⟨nm, role, 4096⟩] ++ r.ms.drop k, r.cs⟩) hm8 hc8 ha8).keep (Nat.le_refl _) (fun q hq _ => ⟨by omega, fun _ => rfl⟩), hbel⟩
          have a0 := cell_of_row _ _ 0 _ _ (0, 0) hp0
          have af := Gn.frozen_row hp0 0
          have b0 := cell_of_row _ _ 0 _ _ (0, 0) hq0
          have b1 := cell_of_row _ _ 1 _ _ (0, 0) hq0
          have s0 := cell_of_row _ _ 0 _ _ (0, 0) hq1
          have s1 := cell_of_row _ _ 1 _ _ (0, 0) hq1
          have sf0 := Gn.frozen_row hq1 0
          have sf1 := Gn.frozen_row hq1 1
          have HRES := Lib.hid hres
          have HFIN := Lib.hid hfin
          have HW8 := Lib.hid hW8
          clear ho6 hg6 hom9 hz9 hs45 h64 hp0 hp1 hk8 hs8 hq0 hq1 hres hbel hfin hW8 c0 c1 x0
          go_wp2_with fail
          rw [← HW8.out]
          refine bodyPost_ret (results_ct (P := Tryz.prog) rfl _ _ (W.heap.size + 1) 27 _ (0, 0) _ _ rfl rfl HRES.out Tryz.underlying27 rfl (by kernel_rfl)) rfl ?_
          exact HFIN.out
end Go.Proofs.YtnmhgjoofgmcgaaGreat.Rl
