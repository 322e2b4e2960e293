/-
  The walk of bracketed.
-/
import Derived.Test.YtakihbjfkpebcaaSxItem
import Derived.StillTailTactics
namespace Go.Proofs.Ytakihbjfkpebcaa.Sx
open Go.RowKit
open Lx (Tk Toks)
set_option maxRecDepth 100000

theorem PAt.deep {W : World} {g r : Nat} {ts : List Tk} {cap i d : Nat} (h : PAt W g r ts cap i d) (d' : Nat) : PAt (W.setCell ⟨g, 2, none⟩ (.int .i64 d')) g r ts cap i d' := by
  refine ⟨?_, ⟨?_, fun k u hk => ?_⟩, h.le, h.lt⟩
  · exact Lx.heap_set h.blk 2 _
  · simp [World.setCell]; exact h.tok.1
  · exact (World.cell?_setCell_other W _ _ _ (fun e => by have := h.lt; injection e with e; omega)).trans (h.tok.2 k u hk)
theorem sep_deep (W : World) (g : Nat) (v : Value) : Lx.Sep g W.heap.size W (W.setCell ⟨g, 2, none⟩ v) := (Lx.Sep.refl g _ W).setCell (.inl rfl) v

set_option maxHeartbeats 8000000 in
theorem brk_any (ts : List Tk) (hE : Ended ts) (hn : ts.length ≤ 65537) (f : Nat) (halt : Ctr 88 ts (pAlt ts f)) : Ctr 108 ts (pBr ts f) := by
  intro W g r cap i d R hp hi hd hR
  have hg := Lx.heap_lt hp.blk
  unfold pBr at hR
  cases hc : clos ts i with
  | none => rw [hc] at hR; cases hR
  | some c =>
    rw [hc] at hR
    have hR' : (if d = 16 then some (.bad ts i 11) else (tak ts i).bind fun _ j => (pAlt ts f (d + 1) j).bind fun r => r.bind fun t k => (need ts k c).bind fun _ m => some (.ok (wrapped c t) m)) = some R := hR
    clear hR
    have hk := clos_kind hc
    have hS := ResAt.start hp
    obtain ⟨c0, c1, c2, cf⟩ := hS.par.facts
    obtain ⟨x0, x1, x2, x3⟩ := hS.par.tk hi
    have hle := hp.le
    have KC := fun W => closing_any (tkAt ts i).kind (tkAt ts i).text (tkAt ts i).line (tkAt ts i).col W
    rw [clo_clos, hc] at KC
    have HS := Lib.hid hS
    rw [show Lx.mk [c] = (⟨#[c]⟩ : ByteArray) from rfl] at KC
    have HK := Lib.hid KC
    have hc3 : c = 41 ∨ c = 93 ∨ c = 125 := by
      unfold clos at hc
      split at hc
      · injection hc with hc; exact .inl hc.symm
      · split at hc
        · injection hc with hc; exact .inr (.inl hc.symm)
        · split at hc
          · injection hc with hc; exact .inr (.inr hc.symm)
          · cases hc
    clear hc
    by_cases h16 : d = 16
    · subst h16
      rw [if_pos rfl] at hR'
      have hR2 : some (Res.no (α := Tree) (tkAt ts i).line (tkAt ts i).col 11) = some R := hR'
      injection hR2 with hR2
      subst hR2
      clear KC hS hp hk hR' hc3
      go_enter Try.func108, Try.ntmps108
      go_wp2_with fail
      go_region_with (go_at_call 102; refine (HK.out _).mono ?_; rintro e w1 ⟨rfl, hb1⟩)
      all_goals
        have h1 := (HS.out.drewN 1).below hg hb1
        have hd2 := h1.par.facts.2.2.1
        have KT := throw_any w1 g r ts cap i 16 11 h1.par hi
        have H1 := Lib.hid h1
        clear h1 hb1 c0 c1 c2 cf x0 x1 x2 x3
        go_wp2_with fail
        refine KT.mono ?_
        rintro e w2 ⟨rfl, b⟩
        have hfin := H1.out.bad (Lx.Sep.of_below b)
        clear b KT
        go_wp2
        exact ⟨rfl, rfl, hfin⟩
    · rw [if_neg h16] at hR'
      have hb16 : ((d : Int) == 16) = false := by rw [beq_eq_false_iff_ne]; omega
      have hd' : d < 16 := by omega
      have hj1 := hE i hk
      have HRR := Lib.hid hR'
      have HKK := Lib.hid hk
      clear KC hS hp hk hR' h16 hd
      go_enter Try.func108, Try.ntmps108
      go_wp2_with fail
      go_region_with (go_at_call 102; refine (HK.out _).mono ?_; rintro e w1 ⟨rfl, hb1⟩)
      all_goals
        have h1 := (HS.out.drewN 1).below hg hb1
        have hd2 := h1.par.facts.2.2.1
        have KT := take_any w1 g r ts cap i d h1.par hE HKK.out (by omega)
        have H1 := Lib.hid h1
        clear h1 hb1 c0 c1 c2 cf x0 x1 x2 x3
        have hR' := HRR.out
        cases ht : tak ts i with
        | no l cc q =>
          rw [ht] at KT hR'
          injection hR' with hR'
          subst hR'
          go_wp2_with fail
          refine KT.mono ?_
          rintro e w2 ⟨rfl, hs2⟩
          have hfin := H1.out.bad hs2
          clear hs2 KT
          go_wp2
          exact ⟨rfl, rfl, hfin⟩
        | ok u j =>
          have hje := tak_at ht
          rw [ht] at KT hR'
          have hM : ((pAlt ts f (d + 1) j).bind fun r => r.bind fun t k => (need ts k c).bind fun _ m => some (.ok (wrapped c t) m)) = some R := hR'
          have HM := Lib.hid hM
          have HKT := Lib.hid KT
          clear hR' hM KT ht
          go_wp2_with fail
          refine HKT.out.mono ?_
          rintro e w2 ⟨x, rfl, rfl, hp2, hs2⟩
          have h2 := H1.out.call hg hp2 hs2
          obtain ⟨-, -, d2, df⟩ := h2.par.facts
          have hp3 := h2.par.deep (d + 1)
          have h3 := h2.call hg hp3 (sep_deep _ _ _)
          rw [show ((d + 1 : Nat) : Int) = (d : Int) + 1 by omega] at h3
          have H3 := Lib.hid h3
          clear h2 hp3 h3 hp2 hs2 hd2
          rcases bind_some HM.out with ⟨l, cc, q, h4, rfl⟩ | ⟨t, k, h4, h5⟩
          · have KA := halt _ g r cap j (d + 1) _ H3.out.par (by omega) (by omega) h4
            have HKA := Lib.hid KA
            clear KA h4
            go_wp2_with fail
            refine HKA.out.mono ?_
            rintro e w4 ⟨rfl, hs4⟩
            have hfin := H3.out.bad hs4
            clear hs4
            go_wp2
            exact ⟨rfl, rfl, hfin⟩
          · have KA := halt _ g r cap j (d + 1) _ H3.out.par (by omega) (by omega) h4
            have hk2 := (inb_all ts hE f).1 (d + 1) j (by omega) t k h4
            have HKA := Lib.hid KA
            have H5 := Lib.hid h5
            clear KA h4 h5
            go_wp2_with fail
            refine HKA.out.mono ?_
            rintro e w4 ⟨x, rfl, ⟨xa, xb, xc, rfl, hnd⟩, hp4, hs4⟩
            obtain ⟨kb, tb, Ab, nb, cb, rfl, rfl, rfl⟩ := hnd.form
            have hI := ItAt.start (H3.out.call hg hp4 hs4) hg (hnd.keep (Nat.le_refl _) fun q hq _ => ⟨by have := H3.out.size; simp at hq this; omega, fun _ => rfl⟩)
            have HI := Lib.hid hI
            clear hI hnd hp4 hs4 d2 df
            have h5 := H5.out
            have KN := need_any _ g r ts cap k (d + 1) c HI.out.res.par hE hk2 (by omega)
            cases hnn : need ts k c with
            | no l cc q =>
              rw [hnn] at KN h5
              injection h5 with h5
              subst h5
              have HKN := Lib.hid KN
              clear KN hnn
              go_wp2_with fail
              refine HKN.out.mono ?_
              rintro e w6 ⟨rfl, hs6⟩
              have hfin := HI.out.res.bad hs6
              clear hs6
              go_wp2
              exact ⟨rfl, rfl, hfin⟩
            | ok u2 m =>
              rw [hnn] at KN h5
              injection h5 with h5
              subst h5
              have HKN := Lib.hid KN
              clear KN hnn
              go_wp2_with fail
              refine HKN.out.mono ?_
              rintro e w6 ⟨x, rfl, rfl, hp6, hs6⟩
              have hI6 := HI.out.call hg hp6 hs6
              obtain ⟨-, -, d6, df6⟩ := hI6.res.par.facts
              rw [show ((d + 1 : Nat) : Int) = (d : Int) + 1 by omega] at d6
              have hI7 := hI6.call hg (hI6.res.par.deep d) (sep_deep _ _ _)
              have HI7 := Lib.hid hI7
              obtain ⟨e0, e1, e2⟩ := hI6.facts
              obtain ⟨y0, y1, y2, yf⟩ := hI6.res.res.facts
              obtain ⟨b0, b1, b2⟩ := hI7.facts
              obtain ⟨z0, z1, z2, zf⟩ := hI7.res.res.facts
              clear hI6 hI7 hp6 hs6
              rcases hc3 with rfl | rfl | rfl
              · have hw : wrapped 41 t = t := rfl
                rw [hw]
                clear hw
                go_wp2
                exact bodyPost_ret (results_cell_row rfl _ _ W.heap.size 63 _ (0, 0) _ rfl (res_done HI7.out.res.res _ _ _) Try.underlying63 rfl rfl) rfl (res_end HI7.out.res HI7.out.nd hg)
              · have KA2 := around_any (W.heap.size + 1) 5 t _ _ _ _ HI7.out.nd HI7.out.res.size
                have hw : wrapped 93 t = around 5 t := rfl
                rw [hw]
                have HKA2 := Lib.hid KA2
                clear KA2 hw
                go_wp2_with fail
                refine HKA2.out.mono ?_
                rintro e w8 ⟨va, vb, vc, rfl, hnd8, hb8⟩
                obtain ⟨k8, t8, A8, n8, c8, rfl, rfl, rfl⟩ := hnd8.form
                have hR8 := HI7.out.res.below hg hb8
                obtain ⟨q0, q1, q2, qf⟩ := hR8.res.facts
                have HR := Lib.hid hR8
                have HN := Lib.hid hnd8
                clear hR8 hnd8 hb8 b0 b1 b2 z0 z1 z2 zf e0 e1 e2 y0 y1 y2 yf d6 df6
                go_wp2
                exact bodyPost_ret (results_cell_row rfl _ _ W.heap.size 63 _ (0, 0) _ rfl (res_done HR.out.res _ _ _) Try.underlying63 rfl rfl) rfl (res_end HR.out HN.out hg)
              · have KA2 := around_any (W.heap.size + 1) 6 t _ _ _ _ HI7.out.nd HI7.out.res.size
                have hw : wrapped 125 t = around 6 t := rfl
                rw [hw]
                have HKA2 := Lib.hid KA2
                clear KA2 hw
                go_wp2_with fail
                refine HKA2.out.mono ?_
                rintro e w8 ⟨va, vb, vc, rfl, hnd8, hb8⟩
                obtain ⟨k8, t8, A8, n8, c8, rfl, rfl, rfl⟩ := hnd8.form
                have hR8 := HI7.out.res.below hg hb8
                obtain ⟨q0, q1, q2, qf⟩ := hR8.res.facts
                have HR := Lib.hid hR8
                have HN := Lib.hid hnd8
                clear hR8 hnd8 hb8 b0 b1 b2 z0 z1 z2 zf e0 e1 e2 y0 y1 y2 yf d6 df6
                go_wp2
                exact bodyPost_ret (results_cell_row rfl _ _ W.heap.size 63 _ (0, 0) _ rfl (res_done HR.out.res _ _ _) Try.underlying63 rfl rfl) rfl (res_end HR.out HN.out hg)

end Go.Proofs.Ytakihbjfkpebcaa.Sx
