/-
  Layer 18: Join.
-/
import Derived.Test.YtdkcfhmdgignhaaRlJoin
import Derived.Test.YtdkcfhmdgignhaaRlOpen
namespace Go.Proofs.Ytdkcfhmdgignhaa.Rl
open Go.RowKit
open Fx (StrsAt)
set_option maxRecDepth 100000
set_option linter.unusedSimpArgs false
set_option linter.unusedVariables false
def noC : Cls := ⟨⟨#[]⟩, ⟨#[]⟩, []⟩
def joinM (r : Rol) (cl st : ByteArray) : Except Nat Rol :=
  if hasN r.classes cl = false then .error 10
  else if hasN r.names st = false then .error 10
  else if (findM r st).role = 1 then (if hasN (r.cs.getD (plc r.classes cl) noC).studs st = true then .error 9
  else .ok ⟨r.ms, r.cs.set (plc r.classes cl) ⟨(r.cs.getD (plc r.classes cl) noC).name, (r.cs.getD (plc r.classes cl) noC).teacher, insN (r.cs.getD (plc r.classes cl) noC).studs st⟩⟩)
  else .error 13
theorem plc_lt2 {r : Rol} {nm : ByteArray} (hs : Rising r.classes) (h : hasN r.classes nm = true) : plc r.classes nm < r.cs.length := by
  obtain ⟨h1, _⟩ := (plc_mem r.classes nm hs).2 (hasN_iff.1 h)
  simpa [Rol.classes] using h1
theorem cells_at3 {raws : List CRaw} (k : Nat) (h : k < raws.length) : (cellsOf encC raws)[k * 3]? = some (.string raws[k].name) ∧ (cellsOf encC raws)[k * 3 + 1]? = some (.string raws[k].teacher) ∧ (cellsOf encC raws)[k * 3 + 2]? = some raws[k].studs :=
  ⟨by have := cellsOf_at encC_len raws k h 0 _ rfl; rwa [Nat.add_zero] at this, cellsOf_at encC_len raws k h 1 _ rfl, cellsOf_at encC_len raws k h 2 _ rfl⟩
theorem set_same {l : List Value} {i : Nat} {v : Value} (h : l[i]? = some v) : l.set i v = l := by
  apply List.ext_getElem?
  intro j
  by_cases e : i = j
  · subst e
    rw [h, List.getElem?_set_self (by
      rcases Nat.lt_or_ge i l.length with h1 | h1
      · exact h1
      · rw [List.getElem?_eq_none h1] at h; cases h)]
  · rw [List.getElem?_set_ne e]
/-- Another slice of students in its place. -/
theorem own_studs {w : World} {base g cap n k : Nat} {T : TypeId} {l : List CRaw} (h : w.ownsRow base T 3 (.slice (some ⟨g, 0, none⟩) n cap) n (cellsOf encC l)) (hl : l.length = n) (hk : k < l.length) (v : Value) :
    (w.setCell ⟨g, k * 3 + 2, none⟩ v).ownsRow base T 3 (.slice (some ⟨g, 0, none⟩) n cap) n (cellsOf encC (l.set k ⟨l[k].name, l[k].teacher, v⟩)) := by
  have hc := cells_set encC_len (a := .string l[k].name) (b := .string l[k].teacher) (c := v) (⟨l[k].name, l[k].teacher, v⟩ : CRaw) rfl l k hk
  obtain ⟨c0, c1, _⟩ := cells_at3 k hk
  rw [set_same c0, set_same c1] at hc
  refine ⟨by rw [cellsOf_len encC_len, List.length_set, hl], ?_⟩
  rcases h.2 with ⟨h0, _⟩ | ⟨g', cap', cur, h0, h1, h2, h3, h4, h5, h6⟩
  · cases h0
  · injection h0 with h0 _ h0c
    injection h0 with h0
    injection h0 with h0
    subst h0
    subst h0c
    refine .inr ⟨g, cap, _, rfl, h1, Gn.heap_set h2 (k * 3 + 2) v, h3, h4, by simpa using h5, ?_⟩
    rw [← hc, ← h6]
    simp only [Array.toList_setIfInBounds]
    rw [List.take_set]
set_option maxHeartbeats 16000000 in
theorem Join_any (r : Rol) (nm tc : ByteArray) (hsz : Sized r) (P : Nat → Prop) (W : World) (v : Value) (h : RlAt P W r v) :
    Calls Try.prog 18 #[v, .string nm, .string tc] W (OpOut W (joinM r nm tc)) := by
  obtain ⟨Am, cm, Ac, cc, rfl, hms, hcs⟩ := h.form
  obtain ⟨n, hnn⟩ : ∃ n, n = r.ms.length := ⟨_, rfl⟩
  obtain ⟨m, hmm⟩ : ∃ m, m = r.cs.length := ⟨_, rfl⟩
  rw [← hnn, ← hmm] at h ⊢
  obtain ⟨raws0, hrow0, hall0⟩ := hcs
  obtain ⟨V, hV⟩ : ∃ V, V = (W.alloc (.cells #[.slice Am n cm, .slice Ac m cc] 26)).alloc (.cells #[.slice none 0 0, .slice none 0 0] 26) := ⟨_, rfl⟩
  have hb : Below W.heap.size W V := by rw [hV]; exact ((Below.refl _ W).alloc (Nat.le_refl _) _).alloc (by simp) _
  have hz : V.heap.size = W.heap.size + 1 + 1 := by rw [hV]; simp
  have hx0 : V.heap[W.heap.size]? = some (.cells #[.slice Am n cm, .slice Ac m cc] 26 (0, 0)) := by rw [hV]; exact (heap_alloc_old _ _ (by simp)).trans (heap_alloc_new W _)
  have hx1 : V.heap[W.heap.size + 1]? = some (.cells #[.slice none 0 0, .slice none 0 0] 26 (0, 0)) := by
    rw [hV]; have := heap_alloc_new (W.alloc (.cells #[.slice Am n cm, .slice Ac m cc] 26)) (.cells #[.slice none 0 0, .slice none 0 0] 26); simpa using this
  obtain ⟨k, hk⟩ : ∃ k, k = plc r.classes nm := ⟨_, rfl⟩
  obtain ⟨fd, hfd⟩ : ∃ fd, fd = hasN r.classes nm := ⟨_, rfl⟩
  obtain ⟨kn, hkn9⟩ : ∃ kn, kn = hasN r.names tc := ⟨_, rfl⟩
  obtain ⟨x, hx⟩ : ∃ x, x = findM r tc := ⟨_, rfl⟩
  have HMB := Lib.hid (class_any r nm P V (.agg #[.slice Am n cm, .slice Ac m cc]) (h.under hb) hsz.classes (by have := hsz.cs; omega))
  rw [← hk, ← hfd] at HMB
  have HME := Lib.hid (fun (w : World) (b : Below W.heap.size W w) => Member_any r tc P w (.agg #[.slice Am n cm, .slice Ac m cc]) (h.under b) hsz.names (by have := hsz.ms; omega))
  rw [← hkn9, ← hx] at HME
  have HCO := Lib.hid (fun (w : World) (b : Below W.heap.size W w) => copied_any r P w (.agg #[.slice Am n cm, .slice Ac m cc]) (h.under b) (by have := hsz.ms; omega) (by have := hsz.cs; omega) (fun c hc => by have := hsz.studs c hc; omega))
  have hRe : joinM r nm tc = if fd = false then .error 10 else if kn = false then .error 10 else if x.role = 1 then (if hasN (r.cs.getD k noC).studs tc = true then .error 9 else .ok ⟨r.ms, r.cs.set k ⟨(r.cs.getD k noC).name, (r.cs.getD k noC).teacher, insN (r.cs.getD k noC).studs tc⟩⟩) else .error 13 := by
    unfold joinM
    rw [← hfd, ← hkn9, ← hx, ← hk]
  have hkc : fd = true → k < r.cs.length := fun e => by rw [hfd] at e; rw [hk]; exact plc_lt2 hsz.classes e
  have HKC := Lib.hid hkc
  have HSZ := Lib.hid hsz
  have HROW := Lib.hid hrow0
  have HALL := Lib.hid hall0
  have HRE := Lib.hid hRe
  have HNN := Lib.hid hnn
  have HMM := Lib.hid hmm
  have HV := Lib.hid hV
  have HB := Lib.hid hb
  have HX0 := Lib.hid hx0
  have HX1 := Lib.hid hx1
  have HZ := Lib.hid hz
  have x0 := cell_of_row _ _ 0 _ _ (0, 0) hx0
  have x1 := cell_of_row _ _ 1 _ _ (0, 0) hx0
  clear hV hb hx0 hx1 hz h hnn hmm hk hfd hkn9 hx hRe hsz hkc hrow0 hall0 hms
  go_enter Try.func18, Try.ntmps18
  go_upto_region 1 with fail
  rw [← HV.out]
  go_wp2_with fail
  refine HMB.out.mono ?_
  rintro e w1 ⟨rfl, hb1⟩
  have hu0 := (hb1.block _ (Gn.heap_lt HX0.out)).trans HX0.out
  have HU0 := Lib.hid hu0
  have HB1 := Lib.hid (HB.out.trans (hb1.mono HB.out.size))
  have HV1 := Lib.hid hb1
  have u0 := cell_of_row _ _ 0 _ _ (0, 0) hu0
  have u1 := cell_of_row _ _ 1 _ _ (0, 0) hu0
  clear hb1 hu0 x0 x1
  go_wp2_with fail
  refine (HME.out w1 HB1.out).mono ?_
  rintro e w19 ⟨rfl, hb19⟩
  obtain ⟨x1, x2, x3⟩ := x
  dsimp only at HME HRE ⊢
  obtain ⟨w2, hw2⟩ : ∃ w2, w2 = w19.alloc (.cells #[.string x1, .int .i64 x2, .int .i64 x3] 49) := ⟨_, rfl⟩
  have hb29 : Below w19.heap.size w19 w2 := by rw [hw2]; exact (Below.refl _ _).alloc (Nat.le_refl _) _
  have hb2 : Below V.heap.size V w2 := HV1.out.trans ((hb19.trans (hb29.mono hb19.size)).mono HV1.out.size)
  have hmb : w2.heap[w19.heap.size]? = some (.cells #[.string x1, .int .i64 x2, .int .i64 x3] 49 (0, 0)) := by rw [hw2]; exact heap_alloc_new _ _
  have mb1 := cell_of_row _ _ 1 _ _ (0, 0) hmb
  have hy0 := (hb2.block _ (Gn.heap_lt HX0.out)).trans HX0.out
  have hy1 := (hb2.block _ (Gn.heap_lt HX1.out)).trans HX1.out
  have HY0 := Lib.hid hy0
  have HY1 := Lib.hid hy1
  have HB2 := Lib.hid (HB.out.trans (hb2.mono HB.out.size))
  have r0 := cell_of_row _ _ 0 _ _ (0, 0) hy1
  have r1 := cell_of_row _ _ 1 _ _ (0, 0) hy1
  have g0 := Gn.frozen_row hy1 0
  have g1 := Gn.frozen_row hy1 1
  have HRS := Lib.hid (Gn.heap_set (Gn.heap_set hy1 0 (.slice none 0 0)) 1 (.slice none 0 0))
  have HBE := Lib.hid ((HB2.out.setCell (p := ⟨W.heap.size + 1, 0, none⟩) (by simp) (.slice none 0 0)).setCell (p := ⟨W.heap.size + 1, 1, none⟩) (by simp) (.slice none 0 0))
  have HW2 := Lib.hid hw2
  clear hb2 hy0 hy1 hb19 hb29 hmb hw2 u0 u1
  go_upto_region 3 with fail
  rw [← HW2.out]
  cases fd with
  | false =>
    have HR := Lib.hid (show joinM r nm tc = .error 10 by rw [HRE.out]; rfl)
    go_wp2_with fail
    refine bodyPost_ret (results_ct (P := Try.prog) rfl _ _ (W.heap.size + 1) 26 _ (0, 0) _ _ rfl rfl HRS.out Try.underlying26 rfl (by kernel_rfl)) rfl ?_
    rw [HR.out]
    exact ⟨_, rfl, rl_zero _ _, HBE.out⟩
  | true =>
    cases kn with
    | false =>
      have HR := Lib.hid (show joinM r nm tc = .error 10 by rw [HRE.out]; rfl)
      go_wp2_with fail
      refine bodyPost_ret (results_ct (P := Try.prog) rfl _ _ (W.heap.size + 1) 26 _ (0, 0) _ _ rfl rfl HRS.out Try.underlying26 rfl (by kernel_rfl)) rfl ?_
      rw [HR.out]
      exact ⟨_, rfl, rl_zero _ _, HBE.out⟩
    | true =>
      by_cases hr2 : x2 = 1
      · subst hr2
        have hkc := HKC.out rfl
        have hkm : k < m := by rw [HMM.out]; exact hkc
        have hkm2 : (k : Int) < (m : Int) := by omega
        have hk0 : k < raws0.length := by rw [HALL.out.1]; exact hkc
        obtain ⟨c, hc9⟩ : ∃ c, c = r.cs[k] := ⟨_, rfl⟩
        have hgd : r.cs.getD k noC = c := by rw [hc9, List.getD_eq_getElem?_getD, List.getElem?_eq_getElem hkc]; rfl
        have hRe2 := HRE.out
        rw [hgd] at hRe2
        have HRE2 := Lib.hid hRe2
        obtain ⟨n1, n2, n3⟩ := HALL.out.2 k hk0 hkc
        rw [← hc9] at n1 n2 n3
        have hmemc : c ∈ r.cs := by rw [hc9]; exact List.getElem_mem hkc
        have hrisec := HSZ.out.rising c hmemc
        have hlenc := HSZ.out.studs c hmemc
        obtain ⟨A5, c5, b5, h5, _, _, h5c, h5d⟩ := RowAt.under HROW.out HB2.out
        rw [HALL.out.1, ← HMM.out] at h5
        injection h5 with h5 _ h5k
        subst h5
        subst h5k
        obtain ⟨rfl, hb5, _⟩ := h5c (by omega)
        have k0 := h5d k hk0 0 (.string raws0[k].name) rfl
        have k1 := h5d k hk0 1 (.string raws0[k].teacher) rfl
        have k2 := h5d k hk0 2 raws0[k].studs rfl
        rw [n1, Nat.add_zero] at k0
        rw [n2] at k1
        obtain ⟨A6, c6, hsf⟩ := n3.form
        obtain ⟨sl, hsl⟩ : ∃ sl, sl = c.studs.length := ⟨_, rfl⟩
        rw [← hsl] at hsf
        rw [hsf] at k2 n3
        obtain ⟨hd, hhd⟩ : ∃ hd, hd = hasN c.studs tc := ⟨_, rfl⟩
        have HHS := Lib.hid (has_any c.name c.teacher c.studs tc _ w2 (.slice A6 sl c6) (n3.under HB2.out) hrisec (by omega))
        rw [← hhd] at HHS
        rw [← hhd] at HRE2
        have y0 := cell_of_row _ _ 0 _ _ (0, 0) HY0.out
        have y1 := cell_of_row _ _ 1 _ _ (0, 0) HY0.out
        have HKC2 := Lib.hid hkc
        have HC9 := Lib.hid hc9
        have HRISE := Lib.hid hrisec
        have HLEN := Lib.hid hlenc
        clear hc9 hgd hRe2 n1 n2 n3 hmemc hrisec hlenc h5c h5d hsl hsf hhd hk0 r0 r1 g0 g1
        go_wp2_with fail
        refine HHS.out.mono ?_
        rintro e w21 ⟨rfl, hb21⟩
        have HY0 := Lib.hid ((hb21.block _ (Gn.heap_lt HY0.out)).trans HY0.out)
        have HY1 := Lib.hid ((hb21.block _ (Gn.heap_lt HY1.out)).trans HY1.out)
        have HB2 := Lib.hid (HB2.out.trans (hb21.mono HB2.out.size))
        clear hb21 y0 y1 k0 k1 k2 mb1 HRS HBE
        have r0 := cell_of_row _ _ 0 _ _ (0, 0) HY1.out
        have r1 := cell_of_row _ _ 1 _ _ (0, 0) HY1.out
        have g0 := Gn.frozen_row HY1.out 0
        have g1 := Gn.frozen_row HY1.out 1
        have HRS := Lib.hid (Gn.heap_set (Gn.heap_set HY1.out 0 (.slice none 0 0)) 1 (.slice none 0 0))
        have HBE := Lib.hid ((HB2.out.setCell (p := ⟨W.heap.size + 1, 0, none⟩) (by simp) (.slice none 0 0)).setCell (p := ⟨W.heap.size + 1, 1, none⟩) (by simp) (.slice none 0 0))
        cases hd with
        | true =>
          have HR := Lib.hid (show joinM r nm tc = .error 9 by rw [HRE2.out]; rfl)
          go_wp2_with fail
          refine bodyPost_ret (results_ct (P := Try.prog) rfl _ _ (W.heap.size + 1) 26 _ (0, 0) _ _ rfl rfl HRS.out Try.underlying26 rfl (by kernel_rfl)) rfl ?_
          rw [HR.out]
          exact ⟨_, rfl, rl_zero _ _, HBE.out⟩
        | false =>
          have HR := Lib.hid (show joinM r nm tc = .ok ⟨r.ms, r.cs.set k ⟨c.name, c.teacher, insN c.studs tc⟩⟩ by rw [HRE2.out]; rfl)
          have y0 := cell_of_row _ _ 0 _ _ (0, 0) HY0.out
          have y1 := cell_of_row _ _ 1 _ _ (0, 0) HY0.out
          clear r0 r1 g0 g1
          go_wp2_with fail
          refine (HCO.out w21 HB2.out).mono ?_
          rintro e w3 ⟨raws, vm, vc, rfl, hco, hb3⟩
          have hcm := hco.ms
          have hcc := hco.cs
          rw [← HNN.out] at hcm
          rw [← HMM.out] at hcc
          obtain ⟨A3, c3, rfl⟩ := Gn.slice_of hcm
          obtain ⟨A4, c4, rfl⟩ := Gn.slice_of hcc
          obtain ⟨g4, rfl⟩ : ∃ g4, A4 = some ⟨g4, 0, none⟩ := by
            rcases hcc.2 with ⟨_, h0⟩ | ⟨g4, _, _, h0, _⟩
            · omega
            · injection h0 with h0
              exact ⟨g4, h0⟩
          have hz9 : W.heap.size + 1 < w21.heap.size := Gn.heap_lt HY1.out
          have hq0 := (hb3.block _ (Gn.heap_lt HY0.out)).trans HY0.out
          have hq1 := (hb3.block _ (Gn.heap_lt HY1.out)).trans HY1.out
          obtain ⟨W4, hW4⟩ : ∃ W4, W4 = (w3.setCell ⟨W.heap.size, 0, none⟩ (.slice A3 n c3)).setCell ⟨W.heap.size, 1, none⟩ (.slice (some ⟨g4, 0, none⟩) m c4) := ⟨_, rfl⟩
          have hk4 : ∀ b, W.heap.size ≠ b → W4.heap[b]? = w3.heap[b]? := fun b hb => by rw [hW4]; exact (Gn.set_keep _ _ _ hb).trans (Gn.set_keep _ _ _ hb)
          have hs4 : W4.heap.size = w3.heap.size := by rw [hW4]; simp [World.setCell]
          have hp0 : W4.heap[W.heap.size]? = some (.cells #[.slice A3 n c3, .slice (some ⟨g4, 0, none⟩) m c4] 26 (0, 0)) := by rw [hW4]; exact Gn.heap_set (Gn.heap_set hq0 0 _) 1 _
          have hp1 : W4.heap[W.heap.size + 1]? = some (.cells #[.slice none 0 0, .slice none 0 0] 26 (0, 0)) := (hk4 _ (by omega)).trans hq1
          have hb4 : Below W.heap.size W W4 := by rw [hW4]; exact ((HB2.out.trans (hb3.mono HB2.out.size)).setCell (Nat.le_refl _) _).setCell (Nat.le_refl _) _
          have hom : W4.ownsRow w21.heap.size 49 3 (.slice A3 n c3) n (cellsOf encM r.ms) := own_keep hcm fun q hq => hk4 q (by have := Gn.own_block hcm q hq; omega)
          have hoc : W4.ownsRow w21.heap.size 54 3 (.slice (some ⟨g4, 0, none⟩) m c4) m (cellsOf encC raws) := own_keep hcc fun q hq => hk4 q (by have := Gn.own_block hcc q hq; omega)
          have hown : ∀ (i : Nat) (h : i < raws.length) (h2 : i < r.cs.length), W4.ownsRow w21.heap.size 9 1 raws[i].studs r.cs[i].studs.length (r.cs[i].studs.map Value.string) ∧ ∀ b, raws[i].studs.ownBlock = some b → (Value.slice A3 n c3).ownBlock ≠ some b ∧ (Value.slice (some ⟨g4, 0, none⟩) m c4).ownBlock ≠ some b := fun i h h2 => ⟨own_keep (hco.own i h h2).1 fun q hq => hk4 q (by have := Gn.own_block (hco.own i h h2).1 q hq; omega), (hco.own i h h2).2⟩
          have hrl : raws.length = r.cs.length := hco.all.1
          have hkr : k < raws.length := by rw [hrl]; exact HKC2.out
          have hnm9 := fun i h h2 => (⟨(hco.all.2 i h h2).1, (hco.all.2 i h h2).2.1⟩ : raws[i].name = r.cs[i].name ∧ raws[i].teacher = r.cs[i].teacher)
          have hdis := hco.dis
          have hne := hco.ne
          have hs24 : w21.heap.size ≤ W4.heap.size := by rw [hs4]; exact hb3.size
          obtain ⟨cur4, hcur4, hcsz4⟩ := own_heap hoc
          obtain ⟨sv, hsv⟩ : ∃ sv, sv = raws[k].studs := ⟨_, rfl⟩
          have hownk := hown k hkr HKC2.out
          rw [← hsv] at hownk
          have hc4 : W4.cell? ⟨g4, k * 3 + 2, none⟩ = some sv := by
            obtain ⟨A7, c7, b7, h7, _, _, h7c, h7d⟩ := RowAt.of_own (l := raws) encC_len (by rw [hrl, ← HMM.out]; exact hoc)
            rw [hrl, ← HMM.out] at h7
            injection h7 with h7
            obtain ⟨e7, _, _⟩ := h7c (by omega)
            rw [e7] at h7
            injection h7 with h7
            injection h7 with h7
            rw [h7, hsv]
            exact h7d k hkr 2 _ rfl
          have hck : r.cs[k]'(HKC2.out) = c := HC9.out.symm
          rw [hck] at hownk
          have HJ := Lib.hid (join_any w21.heap.size g4 (k * 3) c.studs tc W4 sv cur4 54 hcur4 hc4 hownk.1 hs24 HRISE.out HLEN.out (fun e => (hownk.2 g4 e).2 rfl))
          have HP0 := Lib.hid hp0
          have HP1 := Lib.hid hp1
          have HB4 := Lib.hid hb4
          have HOM := Lib.hid hom
          have HOC := Lib.hid hoc
          have HOWN := Lib.hid hown
          have HOK := Lib.hid hownk
          have HNM9 := Lib.hid hnm9
          have HDIS := Lib.hid hdis
          have HNE := Lib.hid hne
          have HS24 := Lib.hid hs24
          have HZ9 := Lib.hid hz9
          have HRL := Lib.hid hrl
          have HSV := Lib.hid hsv
          have HCUR := Lib.hid hcur4
          have c0 := cell_of_row _ _ 0 _ _ (0, 0) hq0
          have c1 := cell_of_row _ _ 1 _ _ (0, 0) hq0
          have d0 := Gn.frozen_row hq0 0
          have d1 := Gn.frozen_row hq0 1
          have HW4 := Lib.hid hW4
          clear hcm hcc hco hb3 hq0 hq1 hk4 hs4 hp0 hp1 hb4 hom hoc hown hnm9 hdis hne hs24 hW4 y0 y1 hz9 hrl hsv hownk hck hc4 hcur4 hcsz4
          go_upto_region 10 with fail
          clear c0 c1 d0 d1
          rw [← HW4.out]
          have c1 := cell_of_row _ _ 1 _ _ (0, 0) HP0.out
          go_wp2_with fail
          refine HJ.out.mono ?_
          rintro e w5 ⟨rfl, w1', v6, rfl, hg6, hst6⟩
          have hz9 := HZ9.out
          have hs61 := hg6.size
          have hgl := Gn.heap_lt HCUR.out
          have hbase := fun q hq => Gn.own_block HOK.out.1 q hq
          have hg4b : w21.heap.size ≤ g4 := Gn.own_block HOC.out g4 rfl
          have hsvg : sv.ownBlock ≠ some g4 := fun e => (HOK.out.2 g4 e).2 rfl
          have h64 : ∀ q, q < W4.heap.size → sv.ownBlock ≠ some q → w1'.heap[q]? = W4.heap[q]? := fun q hq hne => hg6.block q hq (fun e => hne e.symm)
          obtain ⟨A8, c8, hv8⟩ := hst6.form
          obtain ⟨w5, hw5⟩ : ∃ w5, w5 = w1'.setCell ⟨g4, k * 3 + 2, none⟩ v6 := ⟨_, rfl⟩
          have hk5 : ∀ b, g4 ≠ b → w5.heap[b]? = w1'.heap[b]? := fun b hb => by rw [hw5]; exact Gn.set_keep _ _ _ hb
          have hs5 : w5.heap.size = w1'.heap.size := by rw [hw5]; simp [World.setCell]
          have hp0 : w5.heap[W.heap.size]? = some (.cells #[.slice A3 n c3, .slice (some ⟨g4, 0, none⟩) m c4] 26 (0, 0)) := (hk5 _ (by omega)).trans ((h64 _ (Gn.heap_lt HP0.out) (fun e => by have := hbase _ e; omega)).trans HP0.out)
          have hp1 : w5.heap[W.heap.size + 1]? = some (.cells #[.slice none 0 0, .slice none 0 0] 26 (0, 0)) := (hk5 _ (by omega)).trans ((h64 _ (Gn.heap_lt HP1.out) (fun e => by have := hbase _ e; omega)).trans HP1.out)
          obtain ⟨W8, hW8⟩ : ∃ W8, W8 = (w5.setCell ⟨W.heap.size + 1, 0, none⟩ (.slice A3 n c3)).setCell ⟨W.heap.size + 1, 1, none⟩ (.slice (some ⟨g4, 0, none⟩) m c4) := ⟨_, rfl⟩
          have hk8 : ∀ b, W.heap.size + 1 ≠ b → W8.heap[b]? = w5.heap[b]? := fun b h2 => by rw [hW8]; exact (Gn.set_keep _ _ _ h2).trans (Gn.set_keep _ _ _ h2)
          have hs8 : W8.heap.size = w5.heap.size := by rw [hW8]; simp [World.setCell]
          have hres : W8.heap[W.heap.size + 1]? = some (.cells #[.slice A3 n c3, .slice (some ⟨g4, 0, none⟩) m c4] 26 (0, 0)) := by rw [hW8]; exact Gn.heap_set (Gn.heap_set hp1 0 _) 1 _
          have hbel : Below W.heap.size W W8 := by
            have h1 : Below W.heap.size W w1' := ⟨hg6.os.trans HB4.out.os, hg6.tape.trans HB4.out.tape, hg6.output.trans HB4.out.output, Nat.le_trans HB4.out.size hs61, fun q hq => (h64 q (by have := HB4.out.size; omega) (fun e => by have := hbase _ e; omega)).trans (HB4.out.block q hq)⟩
            rw [hW8, hw5]
            exact ((h1.setCell (by show W.heap.size ≤ g4; omega) _).setCell (by simp) _).setCell (by simp) _
          have hfin : OpOut W (joinM r nm tc) (.returned (.tuple #[.agg #[.slice A3 n c3, .slice (some ⟨g4, 0, none⟩) m c4], .int .i64 0])) W8 := by
            rw [HR.out]
            have hrl := HRL.out
            have hkr : k < raws.length := by rw [hrl]; exact HKC2.out
            have hm8 : W8.ownsRow w21.heap.size 49 3 (.slice A3 n c3) r.ms.length (cellsOf encM r.ms) := by
              rw [← HNN.out]
              exact own_keep HOM.out fun q hq => (hk8 q (by have := Gn.own_block HOM.out q hq; omega)).trans ((hk5 q (fun e => HNE.out q hq (by rw [← e]; rfl))).trans (h64 q (Gn.own_lt HOM.out q hq) (fun e => (HOK.out.2 q e).1 hq)))
            have hoc1 : w1'.ownsRow w21.heap.size 54 3 (.slice (some ⟨g4, 0, none⟩) m c4) m (cellsOf encC raws) := own_keep HOC.out fun q hq => h64 q (Gn.own_lt HOC.out q hq) (fun e => (HOK.out.2 q e).2 hq)
            have hc8 : W8.ownsRow w21.heap.size 54 3 (.slice (some ⟨g4, 0, none⟩) m c4) (r.cs.set k ⟨c.name, c.teacher, insN c.studs tc⟩).length (cellsOf encC (raws.set k ⟨raws[k].name, raws[k].teacher, v6⟩)) := by
              rw [List.length_set, ← HMM.out]
              have h5 := own_studs hoc1 (by rw [hrl, HMM.out]) hkr v6
              rw [← hw5] at h5
              exact own_keep h5 fun q hq => hk8 q (by have := Gn.own_block h5 q hq; omega)
            have ha8 : AllC (fun b => w21.heap.size ≤ b) W8 (raws.set k ⟨raws[k].name, raws[k].teacher, v6⟩) (r.cs.set k ⟨c.name, c.teacher, insN c.studs tc⟩) := by
              refine ⟨by rw [List.length_set, List.length_set, hrl], fun i h1 h2 => ?_⟩
              by_cases hik : i = k
              · subst hik
                rw [List.getElem_set_self, List.getElem_set_self]
                obtain ⟨n1, n2⟩ := HNM9.out i hkr HKC2.out
                rw [← HC9.out] at n1 n2
                exact ⟨n1, n2, hst6.keep (by rw [hs8, hs5]; exact Nat.le_refl _) fun q hq _ => ⟨hq.1, fun j => Gn.cell_same ((hk8 q (by have := hq.1; omega)).trans (hk5 q (fun e => by
                  rcases hq.2 with h9 | h9
                  · exact hsvg (by rw [e]; exact h9)
                  · omega))) j⟩⟩
              · have hi1 : i < raws.length := by simpa using h1
                have hi2 : i < r.cs.length := by simpa using h2
                rw [List.getElem_set_ne (fun e => hik e.symm), List.getElem_set_ne (fun e => hik e.symm)]
                obtain ⟨n1, n2⟩ := HNM9.out i hi1 hi2
                obtain ⟨o1, o2⟩ := HOWN.out i hi1 hi2
                have o3 : ∀ q, raws[i].studs.ownBlock = some q → sv.ownBlock ≠ some q := fun q hq e => by
                  rw [HSV.out] at e
                  rcases Nat.lt_or_ge i k with h9 | h9
                  · exact HDIS.out i k hi1 hkr h9 q hq e
                  · exact HDIS.out k i hkr hi1 (by omega) q e hq
                exact ⟨n1, n2, (strs_owned (own_keep (w' := W8) o1 fun q hq => (hk8 q (by have := Gn.own_block o1 q hq; omega)).trans ((hk5 q (fun e => (o2 q hq).2 (by rw [← e]; rfl))).trans (h64 q (Gn.own_lt o1 q hq) (o3 q hq))))).keep (Nat.le_refl _) fun q hq _ => ⟨hq.1, fun _ => rfl⟩⟩
            exact ⟨_, rfl, (rl_done (r := ⟨r.ms, r.cs.set k ⟨c.name, c.teacher, insN c.studs tc⟩⟩) hm8 hc8 ha8).keep (Nat.le_refl _) (fun q hq _ => ⟨by omega, fun _ => rfl⟩), hbel⟩
          have b0 := cell_of_row _ _ 0 _ _ (0, 0) hp0
          have b1 := cell_of_row _ _ 1 _ _ (0, 0) hp0
          have s0 := cell_of_row _ _ 0 _ _ (0, 0) hp1
          have s1 := cell_of_row _ _ 1 _ _ (0, 0) hp1
          have sf0 := Gn.frozen_row hp1 0
          have sf1 := Gn.frozen_row hp1 1
          have HRES := Lib.hid hres
          have HFIN := Lib.hid hfin
          have HW8 := Lib.hid hW8
          rw [← hw5]
          clear hg6 hst6 hz9 hs61 hgl hbase hg4b hsvg h64 hv8 hk5 hs5 hp0 hp1 hk8 hs8 hres hbel hfin hW8 c1 hw5
          go_wp2_with fail
          rw [← HW8.out]
          refine bodyPost_ret (results_ct (P := Try.prog) rfl _ _ (W.heap.size + 1) 26 _ (0, 0) _ _ rfl rfl HRES.out Try.underlying26 rfl (by kernel_rfl)) rfl ?_
          exact HFIN.out
      · have hr3 : (x2 != 1) = true := by simpa using hr2
        have HR := Lib.hid (show joinM r nm tc = .error 13 by rw [HRE.out]; simp [hr2])
        go_wp2_with fail
        refine bodyPost_ret (results_ct (P := Try.prog) rfl _ _ (W.heap.size + 1) 26 _ (0, 0) _ _ rfl rfl HRS.out Try.underlying26 rfl (by kernel_rfl)) rfl ?_
        rw [HR.out]
        exact ⟨_, rfl, rl_zero _ _, HBE.out⟩
end Go.Proofs.Ytdkcfhmdgignhaa.Rl
