/-
  Layer 18: a student parts from a class.
  Layer 18: Part.
-/
import Derived.Test.YtnmhgjoofgmcgaaGreatRlJo
import Derived.Test.YtnmhgjoofgmcgaaGreatRlDel
import Derived.Test.YtnmhgjoofgmcgaaGreatRlClose

namespace Go.Proofs.YtnmhgjoofgmcgaaGreat.Rl
open Go.RowKit
open Fx (StrsAt)
set_option maxRecDepth 100000
set_option linter.unusedSimpArgs false
set_option linter.unusedVariables false
def delN (l : List ByteArray) (x : ByteArray) : List ByteArray := l.take (plc l x) ++ l.drop (plc l x + 1)
/-- The names without that one. -/
def outN (l : List ByteArray) (x : ByteArray) : List ByteArray := if hasN l x = true then delN l x else l
theorem hasN_lt {l : List ByteArray} {x : ByteArray} (hs : Rising l) (h : hasN l x = true) : plc l x < l.length := by
  obtain ⟨h1, _⟩ := (plc_mem l x hs).2 (hasN_iff.1 h)
  exact h1
theorem delN_len {l : List ByteArray} {x : ByteArray} (h : plc l x < l.length) : (delN l x).length = l.length - 1 := by
  unfold delN
  rw [List.length_append, List.length_take, List.length_drop]; omega
/-- What part leaves. -/
structure PartS (base g o : Nat) (T : TypeId) (cur : Array Value) (l : List ByteArray) (sv : Value) (W w' : World) (sv' : Value) : Prop where
  row : w'.heap[g]? = some (.cells (cur.setIfInBounds (o + 2) sv') T (0, 0))
  own : w'.ownsRow base 9 1 sv' l.length (l.map Value.string)
  blk : sv'.ownBlock = sv.ownBlock
  os : w'.os = W.os
  tape : w'.tape = W.tape
  output : w'.output = W.output
  size : W.heap.size ≤ w'.heap.size
  keep : ∀ k, k < W.heap.size → k ≠ g → sv.ownBlock ≠ some k → w'.heap[k]? = W.heap[k]?
def PartOut (base g o : Nat) (T : TypeId) (cur : Array Value) (l : List ByteArray) (x : ByteArray) (sv : Value) (W : World) (e : Ending) (w' : World) : Prop := e = .returned (.tuple #[]) ∧ ∃ sv', PartS base g o T cur (outN l x) sv W w' sv'
theorem set_there {cur : Array Value} {i : Nat} {v : Value} (h : cur[i]? = some v) : cur.setIfInBounds i v = cur := by
  apply Array.ext_getElem?
  intro j
  by_cases e : i = j
  · subst e
    have hi : i < cur.size := by
      rcases Nat.lt_or_ge i cur.size with h1 | h1
      · exact h1
      · rw [Array.getElem?_eq_none h1] at h; cases h
    rw [h, Array.getElem?_setIfInBounds_self_of_lt hi]
  · rw [Array.getElem?_setIfInBounds_ne e]
set_option maxHeartbeats 4000000 in
theorem part_any (base g o : Nat) (l : List ByteArray) (x : ByteArray) (W : World) (sv : Value) (cur : Array Value) (T : TypeId) (hg : W.heap[g]? = some (.cells cur T (0, 0))) (hc : W.cell? ⟨g, o + 2, none⟩ = some sv) (hown : W.ownsRow base 9 1 sv l.length (l.map Value.string)) (hb : base ≤ W.heap.size) (hs : Rising l) (hn : l.length ≤ 4000) (hgb : sv.ownBlock ≠ some g) :
    Calls Tryz.prog 60 #[.pointer (some ⟨g, o, none⟩), .string x] W (PartOut base g o T cur l x sv W) := by
  obtain ⟨A, cap, rfl⟩ := Gn.slice_of hown
  obtain ⟨n, hnn⟩ : ∃ n, n = l.length := ⟨_, rfl⟩
  obtain ⟨p, hp⟩ : ∃ p, p = plc l x := ⟨_, rfl⟩
  obtain ⟨fd, hfd⟩ : ∃ fd, fd = hasN l x := ⟨_, rfl⟩
  have hpl : fd = true → p < l.length := fun e => by rw [hp]; exact hasN_lt hs (by rw [← hfd]; exact e)
  have HBI := Lib.hid ((bin_any l x _ W _ (strs_own hown) hs (by omega)).mono fun e w' hh => show e = .returned (.tuple #[.int .i64 p, .bool fd]) ∧ Below W.heap.size W w' from ⟨by rw [hp, hfd]; exact hh.1, hh.2⟩)
  rw [← hnn] at HBI hc hgb hown ⊢
  have HOW := Lib.hid hown
  have HNN := Lib.hid hnn
  have HP := Lib.hid hp
  have HFD := Lib.hid hfd
  have HG := Lib.hid hg
  have HGB := Lib.hid hgb
  have HPL := Lib.hid hpl
  have HCC := Lib.hid hc
  have HN4 := Lib.hid hn
  clear hown hnn hp hfd hg hgb hpl hs hn
  go_enter Tryz.func60, Tryz.ntmps60
  go_wp2_with fail
  refine HBI.out.mono ?_
  rintro e w2 ⟨rfl, hb2⟩
  have hg2 := (hb2.block _ (Gn.heap_lt HG.out)).trans HG.out
  have hc2 := (hb2.cell (p := ⟨g, o + 2, none⟩) (Gn.heap_lt HG.out)).trans hc
  have ho2 : w2.ownsRow base 9 1 (.slice A n cap) n (l.map Value.string) := own_keep HOW.out fun q hq => hb2.block q (Gn.own_lt HOW.out q hq)
  cases fd with
  | false =>
    have HFI := Lib.hid (show PartOut base g o T cur l x (.slice A n cap) W (.returned (.tuple #[])) w2 from ⟨rfl, .slice A n cap, by
      have h1 := hc2
      rw [cell_of_row _ _ (o + 2) _ _ (0, 0) hg2] at h1
      rw [set_there h1]; exact hg2, by
      unfold outN
      rw [← HFD.out, if_neg (by decide), ← HNN.out]
      exact ho2, rfl, hb2.os, hb2.tape, hb2.output, hb2.size, fun k hk _ _ => hb2.block k hk⟩)
    clear hb2 hg2 hc2 ho2 hc
    go_wp2_with fail
    refine bodyPost_ret (results_none rfl _ _ _) rfl ?_
    exact HFI.out
  | true =>
    have hpl := HPL.out rfl
    obtain ⟨b, rfl⟩ : ∃ b, A = some ⟨b, 0, none⟩ := by
      rcases ho2.2 with ⟨_, h0⟩ | ⟨b, _, _, h0, _⟩
      · have := HNN.out; omega
      · injection h0 with h0
        exact ⟨b, h0⟩
    have HDE := Lib.hid (del_S base w2 b cap n p (l.map Value.string) ho2 (by have := HN4.out; have := HNN.out; omega) (by have := HNN.out; omega) (fun u hu => by
      obtain ⟨y, _, rfl⟩ := List.mem_map.1 hu
      rfl) (Nat.le_trans hb hb2.size))
    have hw1 : IntKind.i64.wrap ((p : Int) + 1) = ((p + 1 : Nat) : Int) := IntWalk.i64_in _ (by have := HN4.out; omega)
    have HB2 := Lib.hid hb2
    have HG2 := Lib.hid hg2
    have HPL2 := Lib.hid hpl
    clear hb2 hg2 ho2 hc hpl
    go_wp2_with fail
    refine HDE.out.mono ?_
    rintro e w4 ⟨rfl, ho4, hg4⟩
    have hg5 : w4.heap[g]? = some (.cells cur T (0, 0)) := (hg4.block g (Gn.heap_lt HG2.out) (fun e => HGB.out e.symm)).trans HG2.out
    have hf5 := Gn.frozen_row hg5 (o + 2)
    have hc5 : w4.cell? ⟨g, o + 2, none⟩ = some (.slice (some ⟨b, 0, none⟩) n cap) := by
      have h1 := hc2
      rw [cell_of_row _ _ (o + 2) _ _ (0, 0) HG2.out] at h1
      rw [cell_of_row _ _ (o + 2) _ _ (0, 0) hg5]
      exact h1
    have HFI := Lib.hid (show PartOut base g o T cur l x (.slice (some ⟨b, 0, none⟩) n cap) W (.returned (.tuple #[])) (w4.setCell ⟨g, o + 2, none⟩ (.slice (some ⟨b, 0, none⟩) (n - 1) cap)) from ⟨rfl, _, Gn.heap_set hg5 (o + 2) _, by
      unfold outN
      have hl : (delN l x).length = n - 1 := by rw [delN_len (by rw [← HP.out]; exact HPL2.out), ← HNN.out]
      have hm : (delN l x).map Value.string = (l.map Value.string).take p ++ (l.map Value.string).drop (p + 1) := by
        unfold delN
        rw [← HP.out, List.map_append, List.map_take, List.map_drop]
      rw [← HFD.out, if_pos rfl, hl, hm]
      exact own_keep ho4 fun q hq => Gn.set_keep _ _ _ (fun e => HGB.out (by rw [e]; exact hq)), rfl, hg4.os.trans HB2.out.os, hg4.tape.trans HB2.out.tape, hg4.output.trans HB2.out.output, by
      have := hg4.size; have := HB2.out.size
      simp [World.setCell]; omega, fun k hk h1 h2 => (Gn.set_keep _ _ _ (fun e => h1 e.symm)).trans ((hg4.block k (by have := HB2.out.size; omega) (fun e => h2 e.symm)).trans (HB2.out.block k hk))⟩)
    clear ho4 hg4 hg5 hc2
    go_wp2_with fail
    refine bodyPost_ret (results_none rfl _ _ _) rfl ?_
    exact HFI.out
end Go.Proofs.YtnmhgjoofgmcgaaGreat.Rl

namespace Go.Proofs.YtnmhgjoofgmcgaaGreat.Rl
open Go.RowKit
open Fx (StrsAt)
set_option maxRecDepth 100000
set_option linter.unusedSimpArgs false
set_option linter.unusedVariables false
def partM (r : Rol) (cl st : ByteArray) : Except Nat Rol :=
  if hasN r.classes cl = false then .error 10
  else if hasN (r.cs.getD (plc r.classes cl) noC).studs st = false then .error 10
  else .ok ⟨r.ms, r.cs.set (plc r.classes cl) ⟨(r.cs.getD (plc r.classes cl) noC).name, (r.cs.getD (plc r.classes cl) noC).teacher, outN (r.cs.getD (plc r.classes cl) noC).studs st⟩⟩
set_option maxHeartbeats 16000000 in
theorem Part_any (r : Rol) (nm tc : ByteArray) (hsz : Sized r) (P : Nat → Prop) (W : World) (v : Value) (h : RlAt P W r v) :
    Calls Tryz.prog 25 #[v, .string nm, .string tc] W (OpOut W (partM r nm tc)) := by
  obtain ⟨Am, cm, Ac, cc, rfl, hms, hcs⟩ := h.form
  obtain ⟨n, hnn⟩ : ∃ n, n = r.ms.length := ⟨_, rfl⟩
  obtain ⟨m, hmm⟩ : ∃ m, m = r.cs.length := ⟨_, rfl⟩
  rw [← hnn, ← hmm] at h ⊢
  obtain ⟨raws0, hrow0, hall0⟩ := hcs
  obtain ⟨V, hV⟩ : ∃ V, V = (W.alloc (.cells #[.slice Am n cm, .slice Ac m cc] 27)).alloc (.cells #[.slice none 0 0, .slice none 0 0] 27) := ⟨_, rfl⟩
  have hb : Below W.heap.size W V := by rw [hV]; exact ((Below.refl _ W).alloc (Nat.le_refl _) _).alloc (by simp) _
  have hz : V.heap.size = W.heap.size + 1 + 1 := by rw [hV]; simp
  have hx0 : V.heap[W.heap.size]? = some (.cells #[.slice Am n cm, .slice Ac m cc] 27 (0, 0)) := by rw [hV]; exact (heap_alloc_old _ _ (by simp)).trans (heap_alloc_new W _)
  have hx1 : V.heap[W.heap.size + 1]? = some (.cells #[.slice none 0 0, .slice none 0 0] 27 (0, 0)) := by
    rw [hV]; have := heap_alloc_new (W.alloc (.cells #[.slice Am n cm, .slice Ac m cc] 27)) (.cells #[.slice none 0 0, .slice none 0 0] 27); simpa using this
  obtain ⟨k, hk⟩ : ∃ k, k = plc r.classes nm := ⟨_, rfl⟩
  obtain ⟨fd, hfd⟩ : ∃ fd, fd = hasN r.classes nm := ⟨_, rfl⟩
  have HMB := Lib.hid (class_any r nm P V (.agg #[.slice Am n cm, .slice Ac m cc]) (h.under hb) hsz.classes (by have := hsz.cs; omega))
  rw [← hk, ← hfd] at HMB
  have HCO := Lib.hid (fun (w : World) (b : Below W.heap.size W w) => copied_any r P w (.agg #[.slice Am n cm, .slice Ac m cc]) (h.under b) (by have := hsz.ms; omega) (by have := hsz.cs; omega) (fun c hc => by have := hsz.studs c hc; omega))
  have hRe : partM r nm tc = if fd = false then .error 10 else if hasN (r.cs.getD k noC).studs tc = false then .error 10 else .ok ⟨r.ms, r.cs.set k ⟨(r.cs.getD k noC).name, (r.cs.getD k noC).teacher, outN (r.cs.getD k noC).studs tc⟩⟩ := by
    unfold partM
    rw [← hfd, ← hk]
  have hkc : fd = true → k < r.cs.length := fun e => by rw [hfd] at e; rw [hk]; exact plc_lt2 hsz.classes e
  have hn4 : m ≤ 4000 := by rw [hmm]; exact hsz.cs
  have HKC := Lib.hid hkc
  have HSZ := Lib.hid hsz
  have HROW := Lib.hid hrow0
  have HALL := Lib.hid hall0
  have HRE := Lib.hid hRe
  have HNN := Lib.hid hnn
  have HMM := Lib.hid hmm
  have HV := Lib.hid hV
  have HB := Lib.hid hb
  have HX0 := Lib.hid hx0
  have HX1 := Lib.hid hx1
  have HZ := Lib.hid hz
  have x0 := cell_of_row _ _ 0 _ _ (0, 0) hx0
  have x1 := cell_of_row _ _ 1 _ _ (0, 0) hx0
  clear hV hb hx0 hx1 hz h hnn hmm hk hfd hRe hsz hkc hrow0 hall0 hms
  go_enter Tryz.func25, Tryz.ntmps25
  go_upto_region 1 with fail
  rw [← HV.out]
  go_wp2_with fail
  refine HMB.out.mono ?_
  rintro e w2 ⟨rfl, hb2⟩
  have hy0 := (hb2.block _ (Gn.heap_lt HX0.out)).trans HX0.out
  have hy1 := (hb2.block _ (Gn.heap_lt HX1.out)).trans HX1.out
  have HY0 := Lib.hid hy0
  have HY1 := Lib.hid hy1
  have HB2 := Lib.hid (HB.out.trans (hb2.mono HB.out.size))
  have HS2 := Lib.hid hb2.size
  have r0 := cell_of_row _ _ 0 _ _ (0, 0) hy1
  have r1 := cell_of_row _ _ 1 _ _ (0, 0) hy1
  have g0 := Gn.frozen_row hy1 0
  have g1 := Gn.frozen_row hy1 1
  have HRS := Lib.hid (Gn.heap_set (Gn.heap_set hy1 0 (.slice none 0 0)) 1 (.slice none 0 0))
  have HBE := Lib.hid ((HB2.out.setCell (p := ⟨W.heap.size + 1, 0, none⟩) (by simp) (.slice none 0 0)).setCell (p := ⟨W.heap.size + 1, 1, none⟩) (by simp) (.slice none 0 0))
  clear hb2 hy0 hy1 x0 x1
  cases fd with
  | false =>
    have HR := Lib.hid (show partM r nm tc = .error 10 by rw [HRE.out]; rfl)
    go_wp2_with fail
    refine bodyPost_ret (results_ct (P := Tryz.prog) rfl _ _ (W.heap.size + 1) 27 _ (0, 0) _ _ rfl rfl HRS.out Tryz.underlying27 rfl (by kernel_rfl)) rfl ?_
    rw [HR.out]
    exact ⟨_, rfl, rl_zero _ _, HBE.out⟩
  | true =>
    have hkc := HKC.out rfl
    have hkm : k < m := by rw [HMM.out]; exact hkc
    have hkm2 : (k : Int) < (m : Int) := by omega
    have hk0 : k < raws0.length := by rw [HALL.out.1]; exact hkc
    obtain ⟨c, hc9⟩ : ∃ c, c = r.cs[k] := ⟨_, rfl⟩
    have hgd : r.cs.getD k noC = c := by rw [hc9, List.getD_eq_getElem?_getD, List.getElem?_eq_getElem hkc]; rfl
    have hRe2 := HRE.out
    rw [hgd] at hRe2
    have HRE2 := Lib.hid hRe2
    obtain ⟨n1, n2, n3⟩ := HALL.out.2 k hk0 hkc
    rw [← hc9] at n1 n2 n3
    have hmemc : c ∈ r.cs := by rw [hc9]; exact List.getElem_mem hkc
    have hrisec := HSZ.out.rising c hmemc
    have hlenc := HSZ.out.studs c hmemc
    obtain ⟨A5, c5, b5, h5, _, _, h5c, h5d⟩ := RowAt.under HROW.out HB2.out
    rw [HALL.out.1, ← HMM.out] at h5
    injection h5 with h5 _ h5k
    subst h5
    subst h5k
    obtain ⟨rfl, hb5, _⟩ := h5c (by omega)
    have k0 := h5d k hk0 0 (.string raws0[k].name) rfl
    have k1 := h5d k hk0 1 (.string raws0[k].teacher) rfl
    have k2 := h5d k hk0 2 raws0[k].studs rfl
    rw [n1, Nat.add_zero] at k0
    rw [n2] at k1
    obtain ⟨A6, c6, hsf⟩ := n3.form
    obtain ⟨sl, hsl⟩ : ∃ sl, sl = c.studs.length := ⟨_, rfl⟩
    rw [← hsl] at hsf
    rw [hsf] at k2 n3
    obtain ⟨hd, hhd⟩ : ∃ hd, hd = hasN c.studs tc := ⟨_, rfl⟩
    have HHS := Lib.hid (has_any c.name c.teacher c.studs tc _ w2 (.slice A6 sl c6) (n3.under HB2.out) hrisec (by omega))
    rw [← hhd] at HHS
    rw [← hhd] at HRE2
    have y0 := cell_of_row _ _ 0 _ _ (0, 0) HY0.out
    have y1 := cell_of_row _ _ 1 _ _ (0, 0) HY0.out
    have HKC2 := Lib.hid hkc
    have HC9 := Lib.hid hc9
    have HRISE := Lib.hid hrisec
    have HLEN := Lib.hid hlenc
    clear hc9 hgd hRe2 n1 n2 n3 hmemc hrisec hlenc h5c h5d hsl hsf hhd hk0 r0 r1 g0 g1
    go_wp2_with fail
    refine HHS.out.mono ?_
    rintro e w21 ⟨rfl, hb21⟩
    have HY0 := Lib.hid ((hb21.block _ (Gn.heap_lt HY0.out)).trans HY0.out)
    have HY1 := Lib.hid ((hb21.block _ (Gn.heap_lt HY1.out)).trans HY1.out)
    have HB2 := Lib.hid (HB2.out.trans (hb21.mono HB2.out.size))
    clear hb21 y0 y1 k0 k1 k2 HRS HBE
    have r0 := cell_of_row _ _ 0 _ _ (0, 0) HY1.out
    have r1 := cell_of_row _ _ 1 _ _ (0, 0) HY1.out
    have g0 := Gn.frozen_row HY1.out 0
    have g1 := Gn.frozen_row HY1.out 1
    have HRS := Lib.hid (Gn.heap_set (Gn.heap_set HY1.out 0 (.slice none 0 0)) 1 (.slice none 0 0))
    have HBE := Lib.hid ((HB2.out.setCell (p := ⟨W.heap.size + 1, 0, none⟩) (by simp) (.slice none 0 0)).setCell (p := ⟨W.heap.size + 1, 1, none⟩) (by simp) (.slice none 0 0))
    cases hd with
    | false =>
      have HR := Lib.hid (show partM r nm tc = .error 10 by rw [HRE2.out]; rfl)
      go_wp2_with fail
      refine bodyPost_ret (results_ct (P := Tryz.prog) rfl _ _ (W.heap.size + 1) 27 _ (0, 0) _ _ rfl rfl HRS.out Tryz.underlying27 rfl (by kernel_rfl)) rfl ?_
      rw [HR.out]
      exact ⟨_, rfl, rl_zero _ _, HBE.out⟩
    | true =>
      have HR := Lib.hid (show partM r nm tc = .ok ⟨r.ms, r.cs.set k ⟨c.name, c.teacher, outN c.studs tc⟩⟩ by rw [HRE2.out]; rfl)
      have y0 := cell_of_row _ _ 0 _ _ (0, 0) HY0.out
      have y1 := cell_of_row _ _ 1 _ _ (0, 0) HY0.out
      clear r0 r1 g0 g1
      go_wp2_with fail
      refine (HCO.out w21 HB2.out).mono ?_
      rintro e w3 ⟨raws, vm, vc, rfl, hco, hb3⟩
      have hcm := hco.ms
      have hcc := hco.cs
      rw [← HNN.out] at hcm
      rw [← HMM.out] at hcc
      obtain ⟨A3, c3, rfl⟩ := Gn.slice_of hcm
      obtain ⟨A4, c4, rfl⟩ := Gn.slice_of hcc
      obtain ⟨g4, rfl⟩ : ∃ g4, A4 = some ⟨g4, 0, none⟩ := by
        rcases hcc.2 with ⟨_, h0⟩ | ⟨g4, _, _, h0, _⟩
        · omega
        · injection h0 with h0
          exact ⟨g4, h0⟩
      have hz9 : W.heap.size + 1 < w21.heap.size := Gn.heap_lt HY1.out
      have hq0 := (hb3.block _ (Gn.heap_lt HY0.out)).trans HY0.out
      have hq1 := (hb3.block _ (Gn.heap_lt HY1.out)).trans HY1.out
      obtain ⟨W4, hW4⟩ : ∃ W4, W4 = (w3.setCell ⟨W.heap.size, 0, none⟩ (.slice A3 n c3)).setCell ⟨W.heap.size, 1, none⟩ (.slice (some ⟨g4, 0, none⟩) m c4) := ⟨_, rfl⟩
      have hk4 : ∀ b, W.heap.size ≠ b → W4.heap[b]? = w3.heap[b]? := fun b hb => by rw [hW4]; exact (Gn.set_keep _ _ _ hb).trans (Gn.set_keep _ _ _ hb)
      have hs4 : W4.heap.size = w3.heap.size := by rw [hW4]; simp [World.setCell]
      have hp0 : W4.heap[W.heap.size]? = some (.cells #[.slice A3 n c3, .slice (some ⟨g4, 0, none⟩) m c4] 27 (0, 0)) := by rw [hW4]; exact Gn.heap_set (Gn.heap_set hq0 0 _) 1 _
      have hp1 : W4.heap[W.heap.size + 1]? = some (.cells #[.slice none 0 0, .slice none 0 0] 27 (0, 0)) := (hk4 _ (by omega)).trans hq1
      have hb4 : Below W.heap.size W W4 := by rw [hW4]; exact ((HB2.out.trans (hb3.mono HB2.out.size)).setCell (Nat.le_refl _) _).setCell (Nat.le_refl _) _
      have hom : W4.ownsRow w21.heap.size 45 3 (.slice A3 n c3) n (cellsOf encM r.ms) := own_keep hcm fun q hq => hk4 q (by have := Gn.own_block hcm q hq; omega)
      have hoc : W4.ownsRow w21.heap.size 53 3 (.slice (some ⟨g4, 0, none⟩) m c4) m (cellsOf encC raws) := own_keep hcc fun q hq => hk4 q (by have := Gn.own_block hcc q hq; omega)
      have hown : ∀ (i : Nat) (h : i < raws.length) (h2 : i < r.cs.length), W4.ownsRow w21.heap.size 9 1 raws[i].studs r.cs[i].studs.length (r.cs[i].studs.map Value.string) ∧ ∀ b, raws[i].studs.ownBlock = some b → (Value.slice A3 n c3).ownBlock ≠ some b ∧ (Value.slice (some ⟨g4, 0, none⟩) m c4).ownBlock ≠ some b := fun i h h2 => ⟨own_keep (hco.own i h h2).1 fun q hq => hk4 q (by have := Gn.own_block (hco.own i h h2).1 q hq; omega), (hco.own i h h2).2⟩
      have hrl : raws.length = r.cs.length := hco.all.1
      have hkr : k < raws.length := by rw [hrl]; exact HKC2.out
      have hnm9 := fun i h h2 => (⟨(hco.all.2 i h h2).1, (hco.all.2 i h h2).2.1⟩ : raws[i].name = r.cs[i].name ∧ raws[i].teacher = r.cs[i].teacher)
      have hdis := hco.dis
      have hne := hco.ne
      have hs24 : w21.heap.size ≤ W4.heap.size := by rw [hs4]; exact hb3.size
      obtain ⟨cur4, hcur4, hcsz4⟩ := own_heap hoc
      obtain ⟨sv, hsv⟩ : ∃ sv, sv = raws[k].studs := ⟨_, rfl⟩
      have hownk := hown k hkr HKC2.out
      rw [← hsv] at hownk
      have hc4 : W4.cell? ⟨g4, k * 3 + 2, none⟩ = some sv := by
        obtain ⟨A7, c7, b7, h7, _, _, h7c, h7d⟩ := RowAt.of_own (l := raws) encC_len (by rw [hrl, ← HMM.out]; exact hoc)
        rw [hrl, ← HMM.out] at h7
        injection h7 with h7
        obtain ⟨e7, _, _⟩ := h7c (by omega)
        rw [e7] at h7
        injection h7 with h7
        injection h7 with h7
        rw [h7, hsv]
        exact h7d k hkr 2 _ rfl
      have hck : r.cs[k]'(HKC2.out) = c := HC9.out.symm
      rw [hck] at hownk
      have HJ := Lib.hid (part_any w21.heap.size g4 (k * 3) c.studs tc W4 sv cur4 53 hcur4 hc4 hownk.1 hs24 HRISE.out HLEN.out (fun e => (hownk.2 g4 e).2 rfl))
      have HP0 := Lib.hid hp0
      have HP1 := Lib.hid hp1
      have HB4 := Lib.hid hb4
      have HOM := Lib.hid hom
      have HOC := Lib.hid hoc
      have HOWN := Lib.hid hown
      have HOK := Lib.hid hownk
      have HNM9 := Lib.hid hnm9
      have HDIS := Lib.hid hdis
      have HNE := Lib.hid hne
      have HS24 := Lib.hid hs24
      have HZ9 := Lib.hid hz9
      have HRL := Lib.hid hrl
      have HSV := Lib.hid hsv
      have HCUR := Lib.hid hcur4
      have c0 := cell_of_row _ _ 0 _ _ (0, 0) hq0
      have c1 := cell_of_row _ _ 1 _ _ (0, 0) hq0
      have d0 := Gn.frozen_row hq0 0
      have d1 := Gn.frozen_row hq0 1
      have HW4 := Lib.hid hW4
      clear hcm hcc hco hb3 hq0 hq1 hk4 hs4 hp0 hp1 hb4 hom hoc hown hnm9 hdis hne hs24 hW4 y0 y1 hz9 hrl hsv hownk hck hc4 hcur4 hcsz4
      go_upto_region 5 with fail
      clear c0 c1 d0 d1
      rw [← HW4.out]
      have c1 := cell_of_row _ _ 1 _ _ (0, 0) HP0.out
      go_wp2_with fail
      refine HJ.out.mono ?_
      rintro e w5 ⟨rfl, v6, hps⟩
      have hz9 := HZ9.out
      have hgl := Gn.heap_lt HCUR.out
      have hbase := fun q hq => Gn.own_block HOK.out.1 q hq
      have hg4b : w21.heap.size ≤ g4 := Gn.own_block HOC.out g4 rfl
      have hsvg : sv.ownBlock ≠ some g4 := fun e => (HOK.out.2 g4 e).2 rfl
      have h64 : ∀ q, q < W4.heap.size → q ≠ g4 → sv.ownBlock ≠ some q → w5.heap[q]? = W4.heap[q]? := hps.keep
      have hp0 : w5.heap[W.heap.size]? = some (.cells #[.slice A3 n c3, .slice (some ⟨g4, 0, none⟩) m c4] 27 (0, 0)) := (h64 _ (Gn.heap_lt HP0.out) (by omega) (fun e => by have := hbase _ e; omega)).trans HP0.out
      have hp1 : w5.heap[W.heap.size + 1]? = some (.cells #[.slice none 0 0, .slice none 0 0] 27 (0, 0)) := (h64 _ (Gn.heap_lt HP1.out) (by omega) (fun e => by have := hbase _ e; omega)).trans HP1.out
      obtain ⟨W8, hW8⟩ : ∃ W8, W8 = (w5.setCell ⟨W.heap.size + 1, 0, none⟩ (.slice A3 n c3)).setCell ⟨W.heap.size + 1, 1, none⟩ (.slice (some ⟨g4, 0, none⟩) m c4) := ⟨_, rfl⟩
      have hk8 : ∀ b, W.heap.size + 1 ≠ b → W8.heap[b]? = w5.heap[b]? := fun b h2 => by rw [hW8]; exact (Gn.set_keep _ _ _ h2).trans (Gn.set_keep _ _ _ h2)
      have hs8 : W8.heap.size = w5.heap.size := by rw [hW8]; simp [World.setCell]
      have hres : W8.heap[W.heap.size + 1]? = some (.cells #[.slice A3 n c3, .slice (some ⟨g4, 0, none⟩) m c4] 27 (0, 0)) := by rw [hW8]; exact Gn.heap_set (Gn.heap_set hp1 0 _) 1 _
      have hbel : Below W.heap.size W W8 := by
        have h1 : Below W.heap.size W w5 := ⟨hps.os.trans HB4.out.os, hps.tape.trans HB4.out.tape, hps.output.trans HB4.out.output, Nat.le_trans HB4.out.size hps.size, fun q hq => (h64 q (by have := HB4.out.size; omega) (by omega) (fun e => by have := hbase _ e; omega)).trans (HB4.out.block q hq)⟩
        rw [hW8]
        exact (h1.setCell (by simp) _).setCell (by simp) _
      have hfin : OpOut W (partM r nm tc) (.returned (.tuple #[.agg #[.slice A3 n c3, .slice (some ⟨g4, 0, none⟩) m c4], .int .i64 0])) W8 := by
        rw [HR.out]
        have hrl := HRL.out
        have hkr : k < raws.length := by rw [hrl]; exact HKC2.out
        have hm8 : W8.ownsRow w21.heap.size 45 3 (.slice A3 n c3) r.ms.length (cellsOf encM r.ms) := by
          rw [← HNN.out]
          exact own_keep HOM.out fun q hq => (hk8 q (by have := Gn.own_block HOM.out q hq; omega)).trans (h64 q (Gn.own_lt HOM.out q hq) (fun e => HNE.out q hq (by rw [e]; rfl)) (fun e => (HOK.out.2 q e).1 hq))
        have hc8 : W8.ownsRow w21.heap.size 53 3 (.slice (some ⟨g4, 0, none⟩) m c4) (r.cs.set k ⟨c.name, c.teacher, outN c.studs tc⟩).length (cellsOf encC (raws.set k ⟨raws[k].name, raws[k].teacher, v6⟩)) := by
          rw [List.length_set, ← HMM.out]
          refine own_keep (own_studs HOC.out (by rw [hrl, HMM.out]) hkr v6) fun q hq => ?_
          have e9 : g4 = q := Option.some.inj hq
          subst e9
          exact (hk8 _ (by omega)).trans (hps.row.trans (Gn.heap_set HCUR.out (k * 3 + 2) v6).symm)
        have ha8 : AllC (fun b => w21.heap.size ≤ b) W8 (raws.set k ⟨raws[k].name, raws[k].teacher, v6⟩) (r.cs.set k ⟨c.name, c.teacher, outN c.studs tc⟩) := by
          refine ⟨by rw [List.length_set, List.length_set, hrl], fun i h1 h2 => ?_⟩
          by_cases hik : i = k
          · subst hik
            rw [List.getElem_set_self, List.getElem_set_self]
            obtain ⟨n1, n2⟩ := HNM9.out i hkr HKC2.out
            rw [← HC9.out] at n1 n2
            exact ⟨n1, n2, (strs_owned (own_keep (w' := W8) hps.own fun q hq => hk8 q (by have := Gn.own_block hps.own q hq; omega))).keep (Nat.le_refl _) fun q hq _ => ⟨hq.1, fun _ => rfl⟩⟩
          · have hi1 : i < raws.length := by simpa using h1
            have hi2 : i < r.cs.length := by simpa using h2
            rw [List.getElem_set_ne (fun e => hik e.symm), List.getElem_set_ne (fun e => hik e.symm)]
            obtain ⟨n1, n2⟩ := HNM9.out i hi1 hi2
            obtain ⟨o1, o2⟩ := HOWN.out i hi1 hi2
            have o3 : ∀ q, raws[i].studs.ownBlock = some q → sv.ownBlock ≠ some q := fun q hq e => by
              rw [HSV.out] at e
              rcases Nat.lt_or_ge i k with h9 | h9
              · exact HDIS.out i k hi1 hkr h9 q hq e
              · exact HDIS.out k i hkr hi1 (by omega) q e hq
            exact ⟨n1, n2, (strs_owned (own_keep (w' := W8) o1 fun q hq => (hk8 q (by have := Gn.own_block o1 q hq; omega)).trans (h64 q (Gn.own_lt o1 q hq) (fun e => (o2 q hq).2 (by rw [e]; rfl)) (o3 q hq)))).keep (Nat.le_refl _) fun q hq _ => ⟨hq.1, fun _ => rfl⟩⟩
        exact ⟨_, rfl, (rl_done (r := ⟨r.ms, r.cs.set k ⟨c.name, c.teacher, outN c.studs tc⟩⟩) hm8 hc8 ha8).keep (Nat.le_refl _) (fun q hq _ => ⟨by omega, fun _ => rfl⟩), hbel⟩
      have b0 := cell_of_row _ _ 0 _ _ (0, 0) hp0
      have b1 := cell_of_row _ _ 1 _ _ (0, 0) hp0
      have s0 := cell_of_row _ _ 0 _ _ (0, 0) hp1
      have s1 := cell_of_row _ _ 1 _ _ (0, 0) hp1
      have sf0 := Gn.frozen_row hp1 0
      have sf1 := Gn.frozen_row hp1 1
      have HRES := Lib.hid hres
      have HFIN := Lib.hid hfin
      have HW8 := Lib.hid hW8
      clear hps hz9 hgl hbase hg4b hsvg h64 hp0 hp1 hk8 hs8 hres hbel hfin hW8 c1
      go_wp2_with fail
      rw [← HW8.out]
      refine bodyPost_ret (results_ct (P := Tryz.prog) rfl _ _ (W.heap.size + 1) 27 _ (0, 0) _ _ rfl rfl HRES.out Tryz.underlying27 rfl (by kernel_rfl)) rfl ?_
      exact HFIN.out
end Go.Proofs.YtnmhgjoofgmcgaaGreat.Rl
