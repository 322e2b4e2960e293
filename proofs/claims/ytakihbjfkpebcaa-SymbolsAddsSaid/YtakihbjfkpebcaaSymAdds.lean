/-
  SymbolsAdds: of any text of at most 1000 bytes that is a grammar, with a rule for each name that has none, and the start, Check tells names that stand twice alone. For every text; no condition of ours.
-/
import Derived.Test.YtakihbjfkpebcaaSyD
import Derived.Test.YtakihbjfkpebcaaSyG
import Derived.Deep.AppendLies
import Derived.Deep.RegionLaw
import Derived.Deep.DeepCutAuto
import Derived.Deep.CutBlock
import Derived.Test.YtakihbjfkpebcaaRows
import Derived.ProofKit
import Derived.OpenShut
import Derived.ShutString
import Derived.ChangeOld
import Derived.BigQuiet
import Derived.Deep.QuietTactic
namespace Go.Proofs.Ytakihbjfkpebcaa.symbolsAdds
open Go.ChangeShapes Go.WideShapes Go.ChangeAt Go.RowKit
open Go.ChangeMaps (open_string shut_string)
open Lx (bs)
open Sx (Gram Rul Nam RlsAt AdAt VItems tableP cellsS checkP cellsP onceP namesR refsR firstP newR missL addX cells4 twGo)
set_option linter.unusedVariables false
set_option linter.unusedSimpArgs false
set_option maxRecDepth 100000

theorem own : ownKnob Try.prog.godebug = none := by kernel_rfl
set_option maxHeartbeats 8000000 in
theorem walk (s : ByteArray) (ws : s.size ≤ maxLen) (w : World) :
    Calls Try.prog 6 #[.string s] w fun e w' => e = .returned (.bool true) ∧ Below w.heap.size w w' := by
  clear ws
  go_enter Try.func6, Try.ntmps6
  go_wp2_with fail
  refine (Sx.speaks_true _).mono ?_
  rintro e w1 ⟨rfl, b1⟩
  go_wp2_with fail
  refine (Sx.read_any s w1).mono ?_
  rintro e w2 ⟨x, bq, rfl, b2, hR⟩
  have HB2 := Lib.hid (b1.trans (b2.mono b1.size))
  clear b1 b2
  rcases hR with ⟨rfl, rfl⟩ | ⟨rfl, hsz, G, jj, hP, v, rfl, hr⟩
  · have HB2a := Lib.hid (HB2.out.alloc HB2.out.size (.cells #[.string ⟨#[]⟩, .slice none 0 0] 25))
    go_wp2
    go_ret
    exact ⟨rfl, HB2a.out⟩
  obtain ⟨m1, m2, m3⟩ := Sx.read_small hP (by rw [Lx.bs_len]; omega)
  have HPOS := Lib.hid (Sx.read_pos hP (by rw [Lx.bs_len]; omega))
  have hr0 := hr
  obtain ⟨A, cp, rr, fa, fb, fc, rfl, _⟩ := hr0
  have hbb := (Below.refl w2.heap.size w2).alloc (Nat.le_refl _) (.cells #[.string (Lx.mk G.start), .slice A G.rules.length cp] 25)
  have hbx := heap_alloc_new w2 (.cells #[.string (Lx.mk G.start), .slice A G.rules.length cp] 25)
  have HV := Lib.hid (HB2.out.trans (hbb.mono HB2.out.size))
  have HRV := Lib.hid (hr.under hbb)
  have HBX := Lib.hid hbx
  clear hr hbb hbx hP HB2 hsz
  obtain ⟨tx, htx⟩ : ∃ tx, tx = Lx.mk G.start := ⟨_, rfl⟩
  obtain ⟨n, hn⟩ : ∃ n, n = G.rules.length := ⟨_, rfl⟩
  have HTX := Lib.hid htx
  have HNN := Lib.hid hn
  have HM1 := Lib.hid m1
  have HM2 := Lib.hid m2
  have HM3 := Lib.hid m3
  simp only [← htx, ← hn] at HV HRV HBX ⊢
  clear m1 m2 m3 htx hn
  go_wp2_with fail
  generalize hV : World.alloc w2 _ = V
  rw [hV] at HV HRV HBX
  clear hV
  obtain ⟨i0, hi0, hz0, hz1, hz2⟩ := info_parts Sx.ruinfo
  obtain ⟨cap, r, vs, hA, hcap, hr, hPr, hvl, hnews, hone, hnd⟩ := HRV.out.news HPOS.out.1
  injection hA with e1 e3 e2
  clear e3
  subst e1 e2
  have HNEWS := Lib.hid hnews
  have HONE := Lib.hid hone
  have HND := Lib.hid hnd
  have HVL := Lib.hid hvl
  have HR := Lib.hid hr
  have hgb := Gn.heap_lt HBX.out
  have HGB := Lib.hid hgb
  have HKW := Lib.hid (fun (w' : World) (e : w'.heap[w2.heap.size]? = V.heap[w2.heap.size]?) => (⟨cell_of_row _ _ 0 _ _ (0, 0) (e.trans HBX.out), cell_of_row _ _ 1 _ _ (0, 0) (e.trans HBX.out)⟩ : w'.cell? ⟨w2.heap.size, 0, none⟩ = some (.string tx) ∧ w'.cell? ⟨w2.heap.size, 1, none⟩ = some (.slice (some ⟨r, 0, none⟩) n cp)))
  have bx0 : V.cell? ⟨w2.heap.size, 0, none⟩ = some (.string tx) := cell_of_row _ _ 0 _ _ (0, 0) HBX.out
  have bx1 : V.cell? ⟨w2.heap.size, 1, none⟩ = some (.slice (some ⟨r, 0, none⟩) n cp) := cell_of_row _ _ 1 _ _ (0, 0) HBX.out
  have HX0 := Lib.hid bx0
  have HX1 := Lib.hid bx1
  have hn64 : n ≤ 64 := by have := HPOS.out.2.1; have := HNN.out; omega
  have hn0 : 0 < n := by have := HPOS.out.1; have := HNN.out; omega
  clear hnews hone hnd hr hPr
  go_upto_region 6 with fail
  go_cut [5] (fun s5 wx => ∃ (hb : Nat) (A2 : Option Addr) (c2 : Nat), s5 = .pointer (some ⟨hb, 0, none⟩) ∧ AdAt V hb tx (.slice none 0 0) 0 [] A2 c2 G.rules wx)
  case first =>
    refine wp_region_noPanic ?_
    refine wp_region_held_drew (S := (fun w' => w'.cell? ⟨w2.heap.size, 0, none⟩ = some (.string tx) ∧ w'.cell? ⟨w2.heap.size, 1, none⟩ = some (.slice (some ⟨r, 0, none⟩) n cp))) (by kernel_rfl) ?_ (fun hHeld => ?_)
    · exact ⟨bx0, bx1⟩
    refine wpAnyH_take (i := 0) (v := ?_) rfl (by kernel_rfl) (by kernel_rfl) (by kernel_rfl) (fun _ _ _ h => h) (Or.inl ⟨by rfl, ?_⟩) (by assumption) ?_
    rotate_left
    · intro w hSw
      try dsimp only at hSw
      go_simp
      try with_reducible rfl
    try simp only [Act.put, List.setIfInBounds_toArray, List.set_cons_zero, List.set_cons_succ]
    refine wpAnyH_take (i := 1) (v := ?_) rfl (by kernel_rfl) (by kernel_rfl) (by kernel_rfl) (fun _ _ _ h => h) (Or.inl ⟨by rfl, ?_⟩) (by assumption) ?_
    rotate_left
    · intro w hSw
      try dsimp only at hSw
      go_simp
      try with_reducible rfl
    try simp only [Act.put, List.setIfInBounds_toArray, List.set_cons_zero, List.set_cons_succ]
    refine wpAnyH_take (i := 3) (v := ?_) rfl (by kernel_rfl) (by kernel_rfl) (by kernel_rfl) (fun _ _ _ h => h) (Or.inl ⟨by rfl, ?_⟩) (by assumption) ?_
    rotate_left
    · intro w hSw
      try dsimp only at hSw
      go_simp
      try with_reducible rfl
    try simp only [Act.put, List.setIfInBounds_toArray, List.set_cons_zero, List.set_cons_succ]
    refine wpAnyH_take (i := 4) (v := ?_) rfl (by kernel_rfl) (by kernel_rfl) (by kernel_rfl) (fun _ _ _ h => h) (Or.inl ⟨by rfl, ?_⟩) (by assumption) ?_
    rotate_left
    · intro w hSw
      try dsimp only at hSw
      go_simp
      try with_reducible rfl
    try simp only [Act.put, List.setIfInBounds_toArray, List.set_cons_zero, List.set_cons_succ]
    refine wpAnyH_ready (rs := [2, 7]) (by kernel_rfl) (by simp) ?_
    refine AllReadyH.cons rfl (fun K hK => ?_) ?_
    · go_simp
      refine hK.out _ _ (HKW.out _ ((heap_alloc_old _ _ (by have := HGB.out; first | omega | (simp; done) | (simp; omega))).trans (rfl))) (fun hHeld => ?_)
      clear hK K
      try simp only [Act.put, List.setIfInBounds_toArray, List.set_cons_zero, List.set_cons_succ]
      refine wpAnyH_ready (rs := [5, 7]) (by kernel_rfl) (by simp) ?_
      refine AllReadyH.cons rfl (fun K hK => ?_) ?_
      · refine step_append_lies _ (by rfl) (.tmp 25) (.tmp 27) 23 (by rfl) V.heap.size 65 i0 _ 4 64 Try.underlying23 hi0 hz0 hz1 hz2 rfl (by decide) (.slice (some ⟨V.heap.size, 0, none⟩) 0 0) 0 [] (by simp [Act.eval]) (Sx.own_empty4 (Sx.heap_new _ _ _ (by first | rfl | simp)) (by have := HGB.out; first | omega | (simp; done) | (simp; omega))) ⟨r, 0, none⟩ n cp (cells4 vs) (by simp [Act.eval]) (by rw [Sx.cells4_len, HVL.out, ← HNN.out]) (fun j u hu => by
              have hh := HNEWS.out j u hu
              rw [Lx.add_row] at hh ⊢
              exact (Gn.cell_same ((heap_alloc_old _ _ (by have := HR.out; first | omega | (simp; done) | (simp; omega))).trans (rfl)) j).trans hh) HONE.out hn0 (by rw [Nat.zero_add]; exact Nat.le_trans hn64 (by decide)) (by omega) (by have := HGB.out; first | omega | (simp; done) | (simp; omega)) _ rfl ?_
        intro gq cap4 w4 hown4 hgrow4 hat4 hlt4
        rw [List.nil_append, Nat.zero_add] at hown4
        have hl4 := hgrow4.size
        try simp at hl4
        try simp at hat4
        have HL4 := Lib.hid hl4
        have HO4 := Lib.hid hown4
        have HG4 := Lib.hid hgrow4
        have HT4 := Lib.hid hat4
        have HQ4 := Lib.hid hlt4
        clear hown4 hgrow4 hat4 hl4 hlt4
        refine hK.out _ _ (HKW.out _ ((HG4.out.block _ (by have := HGB.out; first | omega | (simp; done) | (simp; omega)) (fun e => by have e : w2.heap.size = V.heap.size := (by injection e); have := HGB.out; omega)).trans ((heap_alloc_old _ _ (by have := HGB.out; first | omega | (simp; done) | (simp; omega))).trans (rfl)))) (fun hHeld => ?_)
        clear hK K
        try simp only [Act.put, List.setIfInBounds_toArray, List.set_cons_zero, List.set_cons_succ]
        refine wpAnyH_take (i := 6) (v := ?_) rfl (by kernel_rfl) (by kernel_rfl) (by kernel_rfl) (fun _ _ _ h => h) (Or.inl ⟨by rfl, ?_⟩) (by assumption) ?_
        rotate_left
        · intro w hSw
          try dsimp only at hSw
          go_simp
          try with_reducible rfl
        try simp only [Act.put, List.setIfInBounds_toArray, List.set_cons_zero, List.set_cons_succ]
        refine wpAnyH_ready (rs := [7]) (by kernel_rfl) (by simp) ?_
        refine AllReadyH.cons rfl (fun K hK => ?_) AllReadyH.nil
        go_simp
        refine hK.out _ _ (HKW.out _ ((heap_alloc_old _ _ (by have := HGB.out; have := HL4.out; first | omega | (simp; done) | (simp; omega))).trans ((HG4.out.block _ (by have := HGB.out; first | omega | (simp; done) | (simp; omega)) (fun e => by have e : w2.heap.size = V.heap.size := (by injection e); have := HGB.out; omega)).trans ((heap_alloc_old _ _ (by have := HGB.out; first | omega | (simp; done) | (simp; omega))).trans (rfl))))) (fun hHeld => ?_)
        clear hK K
        try simp only [Act.put, List.setIfInBounds_toArray, List.set_cons_zero, List.set_cons_succ]
        refine wpAnyH_ready (rs := [8]) (by kernel_rfl) (by simp) ?_
        refine AllReadyH.cons rfl (fun K hK => ?_) AllReadyH.nil
        go_simp
        refine hK.out _ _ (HKW.out _ ((heap_alloc_old _ _ (by have := HGB.out; have := HL4.out; first | omega | (simp; done) | (simp; omega))).trans ((HG4.out.block _ (by have := HGB.out; first | omega | (simp; done) | (simp; omega)) (fun e => by have e : w2.heap.size = V.heap.size := (by injection e); have := HGB.out; omega)).trans ((heap_alloc_old _ _ (by have := HGB.out; first | omega | (simp; done) | (simp; omega))).trans (rfl))))) (fun hHeld => ?_)
        clear hK K
        try simp only [Act.put, List.setIfInBounds_toArray, List.set_cons_zero, List.set_cons_succ]
        refine wpAnyH_done (by kernel_rfl) ?_ _
        refine NoPanic.normal ?_
        go_wp2_with fail
        first
          | go_meet
          | (rename_i d1 h1; cases h1; go_meet)
          | (rename_i d1 h1 dd d2 h2; cases h1; cases h2; go_meet)
          | (rename_i d1 h1 dd d2 h2 de d3 h3; cases h1; cases h2; cases h3; go_meet)
        have hq7 := HT4.out.imp (fun h => (by injection h : V.heap.size = gq)) id
        have hq8 := HL4.out
        have hq9 := HQ4.out
        refine ⟨_, some ⟨gq, 0, none⟩, cap4, rfl, ?_⟩
        have hnl := HNN.out
        have hq := HO4.out
        rw [hnl] at hq ⊢
        exact AdAt.start0 (gq := gq) (hb := w4.heap.size) (Below.alloc (Below.grown (Below.alloc (Gn.below_drew (Below.refl _ _)) (by have := HGB.out; first | omega | (simp; done) | (simp; omega)) _) HG4.out (by first | omega | (simp; done) | (simp; omega)) (fun k hk => by have e : V.heap.size = k := (by injection hk); have := HGB.out; omega)) (by have := HGB.out; first | omega | (simp; done) | (simp; omega)) _) (Sx.heap_new _ _ _ rfl) (by have := HGB.out; have := HL4.out; omega) (by omega) (Sx.own_under hq ((Below.refl _ _).alloc (Nat.le_refl _) _)) HVL.out HND.out
      refine AllReadyH.cons rfl (fun K hK => ?_) AllReadyH.nil
      · go_simp
        refine hK.out _ _ (HKW.out _ ((heap_alloc_old _ _ (by have := HGB.out; first | omega | (simp; done) | (simp; omega))).trans ((heap_alloc_old _ _ (by have := HGB.out; first | omega | (simp; done) | (simp; omega))).trans (rfl)))) (fun hHeld => ?_)
        clear hK K
        try simp only [Act.put, List.setIfInBounds_toArray, List.set_cons_zero, List.set_cons_succ]
        refine wpAnyH_ready (rs := [5]) (by kernel_rfl) (by simp) ?_
        refine AllReadyH.cons rfl (fun K hK => ?_) AllReadyH.nil
        refine step_append_lies _ (by rfl) (.tmp 25) (.tmp 27) 23 (by rfl) V.heap.size 65 i0 _ 4 64 Try.underlying23 hi0 hz0 hz1 hz2 rfl (by decide) (.slice (some ⟨V.heap.size, 0, none⟩) 0 0) 0 [] (by simp [Act.eval]) (Sx.own_empty4 ((heap_alloc_old _ _ (by first | omega | (simp; done) | (simp; omega))).trans (Sx.heap_new _ _ _ (by first | rfl | simp))) (by have := HGB.out; first | omega | (simp; done) | (simp; omega))) ⟨r, 0, none⟩ n cp (cells4 vs) (by simp [Act.eval]) (by rw [Sx.cells4_len, HVL.out, ← HNN.out]) (fun j u hu => by
              have hh := HNEWS.out j u hu
              rw [Lx.add_row] at hh ⊢
              exact (Gn.cell_same ((heap_alloc_old _ _ (by have := HR.out; first | omega | (simp; done) | (simp; omega))).trans ((heap_alloc_old _ _ (by have := HR.out; first | omega | (simp; done) | (simp; omega))).trans (rfl))) j).trans hh) HONE.out hn0 (by rw [Nat.zero_add]; exact Nat.le_trans hn64 (by decide)) (by omega) (by have := HGB.out; first | omega | (simp; done) | (simp; omega)) _ rfl ?_
        intro gq cap4 w4 hown4 hgrow4 hat4 hlt4
        rw [List.nil_append, Nat.zero_add] at hown4
        have hl4 := hgrow4.size
        try simp at hl4
        try simp at hat4
        have HL4 := Lib.hid hl4
        have HO4 := Lib.hid hown4
        have HG4 := Lib.hid hgrow4
        have HT4 := Lib.hid hat4
        have HQ4 := Lib.hid hlt4
        clear hown4 hgrow4 hat4 hl4 hlt4
        refine hK.out _ _ (HKW.out _ ((HG4.out.block _ (by have := HGB.out; first | omega | (simp; done) | (simp; omega)) (fun e => by have e : w2.heap.size = V.heap.size := (by injection e); have := HGB.out; omega)).trans ((heap_alloc_old _ _ (by have := HGB.out; first | omega | (simp; done) | (simp; omega))).trans ((heap_alloc_old _ _ (by have := HGB.out; first | omega | (simp; done) | (simp; omega))).trans (rfl))))) (fun hHeld => ?_)
        clear hK K
        try simp only [Act.put, List.setIfInBounds_toArray, List.set_cons_zero, List.set_cons_succ]
        refine wpAnyH_take (i := 6) (v := ?_) rfl (by kernel_rfl) (by kernel_rfl) (by kernel_rfl) (fun _ _ _ h => h) (Or.inl ⟨by rfl, ?_⟩) (by assumption) ?_
        rotate_left
        · intro w hSw
          try dsimp only at hSw
          go_simp
          try with_reducible rfl
        try simp only [Act.put, List.setIfInBounds_toArray, List.set_cons_zero, List.set_cons_succ]
        refine wpAnyH_ready (rs := [8]) (by kernel_rfl) (by simp) ?_
        refine AllReadyH.cons rfl (fun K hK => ?_) AllReadyH.nil
        have bxh : w4.heap[V.heap.size + 1]? = some (.cells #[.string ⟨#[]⟩, .slice none 0 0] 25 (0, 0)) := ((HG4.out.block _ (by first | omega | (simp; done) | (simp; omega)) (fun e => by have e : V.heap.size + 1 = V.heap.size := (by injection e); omega)).trans (Sx.heap_new _ _ _ (by first | rfl | simp)))
        have bc0 := cell_of_row _ _ 0 _ _ (0, 0) bxh
        have bc1 := cell_of_row _ _ 1 _ _ (0, 0) bxh
        have bf0 := frozen_of_row w4 (V.heap.size + 1) 0 _ _ bxh
        have bf1 := frozen_of_row w4 (V.heap.size + 1) 1 _ _ bxh
        have BXH := Lib.hid bxh
        clear bxh
        go_simp
        refine hK.out _ _ (HKW.out _ ((Gn.set_keep _ 1 _ (by have := HGB.out; have := HL4.out; first | omega | (simp; done) | (simp; omega))).trans ((Gn.set_keep _ 0 _ (by have := HGB.out; have := HL4.out; first | omega | (simp; done) | (simp; omega))).trans ((HG4.out.block _ (by have := HGB.out; first | omega | (simp; done) | (simp; omega)) (fun e => by have e : w2.heap.size = V.heap.size := (by injection e); have := HGB.out; omega)).trans ((heap_alloc_old _ _ (by have := HGB.out; first | omega | (simp; done) | (simp; omega))).trans ((heap_alloc_old _ _ (by have := HGB.out; first | omega | (simp; done) | (simp; omega))).trans (rfl))))))) (fun hHeld => ?_)
        clear hK K
        try simp only [Act.put, List.setIfInBounds_toArray, List.set_cons_zero, List.set_cons_succ]
        refine wpAnyH_done (by kernel_rfl) ?_ _
        refine NoPanic.normal ?_
        go_wp2_with fail
        first
          | go_meet
          | (rename_i d1 h1; cases h1; go_meet)
          | (rename_i d1 h1 dd d2 h2; cases h1; cases h2; go_meet)
          | (rename_i d1 h1 dd d2 h2 de d3 h3; cases h1; cases h2; cases h3; go_meet)
        have hq7 := HT4.out.imp (fun h => (by injection h : V.heap.size = gq)) id
        have hq8 := HL4.out
        have hq9 := HQ4.out
        refine ⟨_, some ⟨gq, 0, none⟩, cap4, rfl, ?_⟩
        have hnl := HNN.out
        have hq := HO4.out
        rw [hnl] at hq ⊢
        exact AdAt.start (gq := gq) (hb := V.heap.size + 1) (Below.grown (Below.alloc (Below.alloc (Gn.below_drew (Below.refl _ _)) (by have := HGB.out; first | omega | (simp; done) | (simp; omega)) _) (by have := HGB.out; first | omega | (simp; done) | (simp; omega)) _) HG4.out (by first | omega | (simp; done) | (simp; omega)) (fun k hk => by have e : V.heap.size = k := (by injection hk); have := HGB.out; omega)) BXH.out (by have := HGB.out; have := HL4.out; omega) (by omega) hq HVL.out HND.out
    refine AllReadyH.cons rfl (fun K hK => ?_) AllReadyH.nil
    · go_simp
      refine hK.out _ _ (HKW.out _ ((heap_alloc_old _ _ (by have := HGB.out; first | omega | (simp; done) | (simp; omega))).trans (rfl))) (fun hHeld => ?_)
      clear hK K
      try simp only [Act.put, List.setIfInBounds_toArray, List.set_cons_zero, List.set_cons_succ]
      refine wpAnyH_ready (rs := [2]) (by kernel_rfl) (by simp) ?_
      refine AllReadyH.cons rfl (fun K hK => ?_) AllReadyH.nil
      go_simp
      refine hK.out _ _ (HKW.out _ ((heap_alloc_old _ _ (by have := HGB.out; first | omega | (simp; done) | (simp; omega))).trans ((heap_alloc_old _ _ (by have := HGB.out; first | omega | (simp; done) | (simp; omega))).trans (rfl)))) (fun hHeld => ?_)
      clear hK K
      try simp only [Act.put, List.setIfInBounds_toArray, List.set_cons_zero, List.set_cons_succ]
      refine wpAnyH_ready (rs := [5]) (by kernel_rfl) (by simp) ?_
      refine AllReadyH.cons rfl (fun K hK => ?_) AllReadyH.nil
      refine step_append_lies _ (by rfl) (.tmp 25) (.tmp 27) 23 (by rfl) V.heap.size 65 i0 _ 4 64 Try.underlying23 hi0 hz0 hz1 hz2 rfl (by decide) (.slice (some ⟨V.heap.size + 1, 0, none⟩) 0 0) 0 [] (by simp [Act.eval]) (Sx.own_empty4 (Sx.heap_new _ _ _ (by first | rfl | simp)) (by have := HGB.out; first | omega | (simp; done) | (simp; omega))) ⟨r, 0, none⟩ n cp (cells4 vs) (by simp [Act.eval]) (by rw [Sx.cells4_len, HVL.out, ← HNN.out]) (fun j u hu => by
              have hh := HNEWS.out j u hu
              rw [Lx.add_row] at hh ⊢
              exact (Gn.cell_same ((heap_alloc_old _ _ (by have := HR.out; first | omega | (simp; done) | (simp; omega))).trans ((heap_alloc_old _ _ (by have := HR.out; first | omega | (simp; done) | (simp; omega))).trans (rfl))) j).trans hh) HONE.out hn0 (by rw [Nat.zero_add]; exact Nat.le_trans hn64 (by decide)) (by omega) (by have := HGB.out; first | omega | (simp; done) | (simp; omega)) _ rfl ?_
      intro gq cap4 w4 hown4 hgrow4 hat4 hlt4
      rw [List.nil_append, Nat.zero_add] at hown4
      have hl4 := hgrow4.size
      try simp at hl4
      try simp at hat4
      have HL4 := Lib.hid hl4
      have HO4 := Lib.hid hown4
      have HG4 := Lib.hid hgrow4
      have HT4 := Lib.hid hat4
      have HQ4 := Lib.hid hlt4
      clear hown4 hgrow4 hat4 hl4 hlt4
      refine hK.out _ _ (HKW.out _ ((HG4.out.block _ (by have := HGB.out; first | omega | (simp; done) | (simp; omega)) (fun e => by have e : w2.heap.size = V.heap.size + 1 := (by injection e); have := HGB.out; omega)).trans ((heap_alloc_old _ _ (by have := HGB.out; first | omega | (simp; done) | (simp; omega))).trans ((heap_alloc_old _ _ (by have := HGB.out; first | omega | (simp; done) | (simp; omega))).trans (rfl))))) (fun hHeld => ?_)
      clear hK K
      try simp only [Act.put, List.setIfInBounds_toArray, List.set_cons_zero, List.set_cons_succ]
      refine wpAnyH_take (i := 6) (v := ?_) rfl (by kernel_rfl) (by kernel_rfl) (by kernel_rfl) (fun _ _ _ h => h) (Or.inl ⟨by rfl, ?_⟩) (by assumption) ?_
      rotate_left
      · intro w hSw
        try dsimp only at hSw
        go_simp
        try with_reducible rfl
      try simp only [Act.put, List.setIfInBounds_toArray, List.set_cons_zero, List.set_cons_succ]
      refine wpAnyH_ready (rs := [8]) (by kernel_rfl) (by simp) ?_
      refine AllReadyH.cons rfl (fun K hK => ?_) AllReadyH.nil
      have bxh : w4.heap[V.heap.size]? = some (.cells #[.string ⟨#[]⟩, .slice none 0 0] 25 (0, 0)) := ((HG4.out.block _ (by first | omega | (simp; done) | (simp; omega)) (fun e => by have e : V.heap.size = V.heap.size + 1 := (by injection e); omega)).trans ((heap_alloc_old _ _ (by first | omega | (simp; done) | (simp; omega))).trans (Sx.heap_new _ _ _ (by first | rfl | simp))))
      have bc0 := cell_of_row _ _ 0 _ _ (0, 0) bxh
      have bc1 := cell_of_row _ _ 1 _ _ (0, 0) bxh
      have bf0 := frozen_of_row w4 (V.heap.size) 0 _ _ bxh
      have bf1 := frozen_of_row w4 (V.heap.size) 1 _ _ bxh
      have BXH := Lib.hid bxh
      clear bxh
      go_simp
      refine hK.out _ _ (HKW.out _ ((Gn.set_keep _ 1 _ (by have := HGB.out; have := HL4.out; first | omega | (simp; done) | (simp; omega))).trans ((Gn.set_keep _ 0 _ (by have := HGB.out; have := HL4.out; first | omega | (simp; done) | (simp; omega))).trans ((HG4.out.block _ (by have := HGB.out; first | omega | (simp; done) | (simp; omega)) (fun e => by have e : w2.heap.size = V.heap.size + 1 := (by injection e); have := HGB.out; omega)).trans ((heap_alloc_old _ _ (by have := HGB.out; first | omega | (simp; done) | (simp; omega))).trans ((heap_alloc_old _ _ (by have := HGB.out; first | omega | (simp; done) | (simp; omega))).trans (rfl))))))) (fun hHeld => ?_)
      clear hK K
      try simp only [Act.put, List.setIfInBounds_toArray, List.set_cons_zero, List.set_cons_succ]
      refine wpAnyH_done (by kernel_rfl) ?_ _
      refine NoPanic.normal ?_
      go_wp2_with fail
      first
        | go_meet
        | (rename_i d1 h1; cases h1; go_meet)
        | (rename_i d1 h1 dd d2 h2; cases h1; cases h2; go_meet)
        | (rename_i d1 h1 dd d2 h2 de d3 h3; cases h1; cases h2; cases h3; go_meet)
      have hq7 := HT4.out.imp (fun h => (by injection h : V.heap.size + 1 = gq)) id
      have hq8 := HL4.out
      have hq9 := HQ4.out
      refine ⟨_, some ⟨gq, 0, none⟩, cap4, rfl, ?_⟩
      have hnl := HNN.out
      have hq := HO4.out
      rw [hnl] at hq ⊢
      exact AdAt.start (gq := gq) (hb := V.heap.size) (Below.grown (Below.alloc (Below.alloc (Gn.below_drew (Below.refl _ _)) (by have := HGB.out; first | omega | (simp; done) | (simp; omega)) _) (by have := HGB.out; first | omega | (simp; done) | (simp; omega)) _) HG4.out (by first | omega | (simp; done) | (simp; omega)) (fun k hk => by have e : V.heap.size + 1 = k := (by injection hk); have := HGB.out; omega)) BXH.out (by have := HGB.out; have := HL4.out; omega) (by omega) hq HVL.out HND.out
  case rest =>
    obtain ⟨hb, A2, c2, rfl, hA⟩ := hcut
    have HA := Lib.hid hA
    have y0 := (hA.below.cell (p := ⟨w2.heap.size, 0, none⟩) HGB.out).trans HX0.out
    have y1 := (hA.below.cell (p := ⟨w2.heap.size, 1, none⟩) HGB.out).trans HX1.out
    have HKT := Lib.hid (show Calls Try.prog 10 #[.agg #[.string tx, .slice (some ⟨r, 0, none⟩) n cp]] wc fun e w'' => ∃ v, e = .returned v ∧ Below wc.heap.size wc w'' ∧ w''.ownsRow wc.heap.size 39 3 v (tableP G.rules).length (cellsS (tableP G.rules)) from by
      rw [HTX.out]
      exact (Sx.table_any G HM2.out 65537 (by decide) HM3.out _ wc _ (HRV.out.under hA.below)).mono fun e w'' ⟨pv, h1, h2, h3⟩ => ⟨pv, h1, h3, h2⟩)
    clear hA
    go_wp2_with fail
    refine HKT.out.mono ?_
    rintro e w7 ⟨tv, rfl, b7, ht⟩
    have hA7 := HA.out.tell b7 ht
    obtain ⟨L, hL⟩ : ∃ L, L = onceP (namesR G.rules G.rules) := ⟨_, rfl⟩
    rw [Sx.table_is, ← hL] at hA7
    have hll : (Sx.tabF G.rules (refsR G.rules) L).length = L.length := by simp [Sx.tabF]
    rw [hll] at hA7
    have hpl : L.length ≤ 64128 := by
      rw [hL]
      have h4 := Sx.onceP_le (namesR G.rules G.rules)
      have h5 := Sx.namesR_len G.rules 1001 G.rules HPOS.out.2.2
      have h6 := Nat.mul_le_mul_right 1001 HPOS.out.2.1
      have := HPOS.out.2.1
      omega
    obtain ⟨TA, d, rfl⟩ := Gn.slice_of hA7.tab
    obtain ⟨N, hN⟩ : ∃ N, N = L.length := ⟨_, rfl⟩
    rw [← hN] at hpl hA7 hll ⊢
    obtain ⟨tc, htc⟩ : ∃ tc, tc = cellsS (Sx.tabF G.rules (refsR G.rules) L) := ⟨_, rfl⟩
    rw [← htc] at hA7
    have HTC := Lib.hid htc
    have HNP := Lib.hid hN
    have HLEN := Lib.hid hll
    have HLL := Lib.hid hL
    have HA7 := Lib.hid hA7
    clear hL hN hll htc hA7 ht b7 HKT HA y0 y1
    go_wp2_with fail
    go_loopw [7, 8] (fun s7 i wr => ∃ (j : Nat) (A3 : Option Addr) (c3 : Nat), j ≤ N ∧ i = .int .i64 j ∧ s7 = .bool (decide (G.start ∈ L.take j)) ∧ AdAt V hb tx (.slice TA N d) N tc A3 c3 (G.rules ++ newR (missL G.rules (L.take j))) wr) (fun _ i _ => N - (intOf i).toNat)
    case atStart => exact ⟨0, A2, c2, Nat.zero_le _, rfl, by simp, by rw [show G.rules ++ newR (missL G.rules (L.take 0)) = G.rules by simp [missL, newR]]; exact HA7.out⟩
    case round =>
      obtain ⟨j, A3, c3, hj, rfl, rfl, hA3⟩ := hrel
      obtain ⟨acc, hacc⟩ : ∃ acc, acc = G.rules ++ newR (missL G.rules (L.take j)) := ⟨_, rfl⟩
      obtain ⟨bo, hbo⟩ : ∃ bo, bo = decide (G.start ∈ L.take j) := ⟨_, rfl⟩
      rw [← hacc] at hA3
      rw [← hbo]
      have hal : acc.length ≤ 65536 := by
        rw [hacc, List.length_append, Sx.newR_len]
        have h4 := Sx.missL_len G.rules (L.take j)
        rw [List.length_take] at h4
        have := HPOS.out.2.1
        omega
      have HAC := Lib.hid hacc
      have HBO := Lib.hid hbo
      have HA3 := Lib.hid hA3
      clear hacc hbo
      by_cases hlt : j < N
      · have hlt2 : (j : Int) < (N : Int) := by omega
        have hjl : j < L.length := by rw [← HNP.out]; exact hlt
        have k1 := hA3.tab
        obtain ⟨g1, e1v, e1⟩ := Sx.row_some k1 (by omega)
        injection e1 with e1 _ e1'
        subst e1 e1'
        obtain ⟨t0, t1, t2⟩ := Sx.cellsS3 (Sx.tabF G.rules (refsR G.rules) L) j (by rw [HLEN.out]; exact hlt)
        have hT : (Sx.tabF G.rules (refsR G.rules) L)[j]'(by rw [HLEN.out]; exact hlt) = (L[j], firstP G.rules L[j], Sx.usN (refsR G.rules) L[j]) := by simp [Sx.tabF]
        rw [hT] at t0 t1 t2
        rw [← HTC.out] at t0 t1
        have x0 := (World.ownsRow.cellAt k1 (j * 3) (by omega)).trans t0
        have x1 := (World.ownsRow.cellAt k1 (j * 3 + 1) (by omega)).trans t1
        have hg1 := Gn.own_lt k1 g1 rfl
        have HG1 := Lib.hid hg1
        have hgh : g1 ≠ hb := hA3.thb g1 rfl
        have HGH := Lib.hid hgh
        have HGB3 := Lib.hid (Nat.lt_of_lt_of_le HGB.out hA3.below.size)
        have HMT := Lib.hid (Sx.missL_take G.rules L j hjl)
        have HST := Lib.hid (show decide (G.start ∈ L.take (j + 1)) = (bo || ((Lx.mk L[j]).toList == tx.toList)) by
          rw [HTX.out, Sx.textEq, HBO.out, List.take_succ_eq_append_getElem hjl]
          simp only [List.mem_append, List.mem_singleton, Bool.decide_or]
          congr 1
          exact decide_eq_decide.2 eq_comm)
        obtain ⟨sm, hsm⟩ : ∃ sm, sm = Lx.mk L[j] := ⟨_, rfl⟩
        obtain ⟨fi, hfi⟩ : ∃ fi, fi = firstP G.rules L[j] := ⟨_, rfl⟩
        have hfg : fi = -1 ∨ 0 ≤ fi := by rw [hfi]; exact Sx.first_ge _ _ 0
        have HFG := Lib.hid hfg
        rw [← hsm] at x0 HST
        rw [← hfi] at x1 HMT
        have HSM := Lib.hid hsm
        clear t0 t1 t2 hT k1 hg1 hsm hfi hgh hfg
        go_upto_if 43 with fail
        go_cut [] (fun wx => ∃ (A4 : Option Addr) (c4 : Nat), AdAt V hb tx (.slice (some ⟨g1, 0, none⟩) N d) N tc A4 c4 (G.rules ++ newR (missL G.rules (L.take (j + 1)))) wx)
        case first =>
          by_cases hf : fi < 0
          · have HACC2 := Lib.hid (show acc ++ [(L[j], .node 3 [] [])] = G.rules ++ newR (missL G.rules (L.take (j + 1))) by
              rw [HMT.out, if_pos (by have := HFG.out; omega), Sx.newR_snoc, HAC.out, List.append_assoc])
            have HD := Lib.hid (hA3.under (Gn.below_drew (Below.refl _ _)))
            obtain ⟨vs3, hv1, hv2, hv3⟩ := HD.out.items
            have HV3 := Lib.hid hv2
            have o1 : wr.cell? ⟨hb, 1, none⟩ = some (.slice A3 acc.length c3) := cell_of_row _ _ 1 _ _ (0, 0) hA3.hbx
            have HBL := Lib.hid (Gn.heap_lt hA3.hbx)
            have o1a := fun o : Obj => (((Below.refl wr.heap.size wr).alloc (Nat.le_refl _) o).cell (p := ⟨hb, 1, none⟩) HBL.out).trans o1
            have HSEP := Lib.hid hA3.sep
            have HKX := Lib.hid (fun (w' : World) (e : w'.heap[g1]? = wr.heap[g1]?) => (Gn.cell_same e (j * 3)).trans x0)
            have hVs := hA3.below.size
            clear hv1 hv2 hv3 hA3
            go_wp2_with fail
            refine wp_region_noPanic ?_
            refine wp_region_held_drew (S := (fun w' => w'.cell? ⟨g1, j * 3, none⟩ = some (.string sm))) (by kernel_rfl) ?_ (fun hHeld => ?_)
            · exact x0
            refine wpAnyH_take (i := 0) (v := ?_) rfl (by kernel_rfl) (by kernel_rfl) (by kernel_rfl) (fun _ _ _ h => h) (Or.inl ⟨by rfl, ?_⟩) (by assumption) ?_
            rotate_left
            · intro w hSw
              try dsimp only at hSw
              go_simp
              try with_reducible rfl
            try simp only [Act.put, List.setIfInBounds_toArray, List.set_cons_zero, List.set_cons_succ]
            refine wpAnyH_take (i := 2) (v := ?_) rfl (by kernel_rfl) (by kernel_rfl) (by kernel_rfl) (fun _ _ _ h => h) (Or.inl ⟨by rfl, ?_⟩) (by assumption) ?_
            rotate_left
            · intro w hSw
              try dsimp only at hSw
              go_simp
              try with_reducible rfl
            try simp only [Act.put, List.setIfInBounds_toArray, List.set_cons_zero, List.set_cons_succ]
            refine wpAnyH_take (i := 3) (v := ?_) rfl (by kernel_rfl) (by kernel_rfl) (by kernel_rfl) (fun _ _ _ h => h) (Or.inl ⟨by rfl, ?_⟩) (by assumption) ?_
            rotate_left
            · intro w hSw
              try dsimp only at hSw
              go_simp
              try with_reducible rfl
            try simp only [Act.put, List.setIfInBounds_toArray, List.set_cons_zero, List.set_cons_succ]
            refine wpAnyH_take (i := 4) (v := ?_) rfl (by kernel_rfl) (by kernel_rfl) (by kernel_rfl) (fun _ _ _ h => h) (Or.inl ⟨by rfl, ?_⟩) (by assumption) ?_
            rotate_left
            · intro w hSw
              try dsimp only at hSw
              go_simp
              try with_reducible rfl
            try simp only [Act.put, List.setIfInBounds_toArray, List.set_cons_zero, List.set_cons_succ]
            refine wpAnyH_take (i := 5) (v := ?_) rfl (by kernel_rfl) (by kernel_rfl) (by kernel_rfl) (fun _ _ _ h => h) (Or.inl ⟨by rfl, ?_⟩) (by assumption) ?_
            rotate_left
            · intro w hSw
              try dsimp only at hSw
              go_simp
              try with_reducible rfl
            try simp only [Act.put, List.setIfInBounds_toArray, List.set_cons_zero, List.set_cons_succ]
            refine wpAnyH_take (i := 6) (v := ?_) rfl (by kernel_rfl) (by kernel_rfl) (by kernel_rfl) (fun _ _ _ h => h) (Or.inl ⟨by rfl, ?_⟩) (by assumption) ?_
            rotate_left
            · intro w hSw
              try dsimp only at hSw
              go_simp
              try with_reducible rfl
            try simp only [Act.put, List.setIfInBounds_toArray, List.set_cons_zero, List.set_cons_succ]
            refine wpAnyH_take (i := 7) (v := ?_) rfl (by kernel_rfl) (by kernel_rfl) (by kernel_rfl) (fun _ _ _ h => h) (Or.inl ⟨by rfl, ?_⟩) (by assumption) ?_
            rotate_left
            · intro w hSw
              try dsimp only at hSw
              go_simp
              try with_reducible rfl
            try simp only [Act.put, List.setIfInBounds_toArray, List.set_cons_zero, List.set_cons_succ]
            refine wpAnyH_take (i := 8) (v := ?_) rfl (by kernel_rfl) (by kernel_rfl) (by kernel_rfl) (fun _ _ _ h => h) (Or.inl ⟨by rfl, ?_⟩) (by assumption) ?_
            rotate_left
            · intro w hSw
              try dsimp only at hSw
              go_simp
              try with_reducible rfl
            try simp only [Act.put, List.setIfInBounds_toArray, List.set_cons_zero, List.set_cons_succ]
            refine wpAnyH_ready (rs := [1, 9]) (by kernel_rfl) (by simp) ?_
            refine AllReadyH.cons rfl (fun K hK => ?_) ?_
            · go_simp
              refine hK.out _ _ ((by assumption)) (fun hHeld => ?_)
              clear hK K
              try simp only [Act.put, List.setIfInBounds_toArray, List.set_cons_zero, List.set_cons_succ]
              refine wpAnyH_ready (rs := [9]) (by kernel_rfl) (by simp) ?_
              refine AllReadyH.cons rfl (fun K hK => ?_) AllReadyH.nil
              go_simp
              refine hK.out _ _ (HKX.out _ ((heap_alloc_old _ _ (by have := HG1.out; first | omega | (simp; done) | (simp; omega))).trans rfl)) (fun hHeld => ?_)
              clear hK K
              try simp only [Act.put, List.setIfInBounds_toArray, List.set_cons_zero, List.set_cons_succ]
              refine wpAnyH_ready (rs := [10]) (by kernel_rfl) (by simp) ?_
              refine AllReadyH.cons rfl (fun K hK => ?_) AllReadyH.nil
              refine step_append_lies _ (by rfl) (.tmp 45) (.tmp 53) 23 (by rfl) V.heap.size 65 i0 _ 4 64 Try.underlying23 hi0 hz0 hz1 hz2 rfl (by decide) (.slice A3 acc.length c3) acc.length (cells4 vs3) (by simp [Act.eval]) (HV3.out.alloc _) ⟨wr.heap.size, 0, none⟩ 1 1 [.string sm, .int .i64 3, .string ⟨#[]⟩, .slice none 0 0] (by simp [Act.eval]) rfl (fun j u hu => by
                  have := cell_of_row _ _ j _ _ (0, 0) (heap_alloc_new wr.drew (.cells #[.string sm, .int .i64 3, .string ⟨#[]⟩, .slice none 0 0] 65))
                  match j, hu with
                  | 0, hu => exact this.trans hu
                  | 1, hu => exact this.trans hu
                  | 2, hu => exact this.trans hu
                  | 3, hu => exact this.trans hu
                  | _ + 4, hu => simp at hu) (by simp [Value.oneCell']) (by decide) (by have : maxLen = 9223372036854775807 := rfl; omega) (by omega) (by simp; omega) _ rfl ?_
              intro gq cap4 w4 hown4 hgrow4 hat4 hlt4
              have h4 := HD.out.snoc (s := L[j]) (gq := gq) (cp' := cap4) (fun vs4 hv4 => by rw [Gn.owns_uniq hv4 HV3.out, ← HSM.out]; exact hown4) hgrow4 hat4
              obtain ⟨h4a, h4b⟩ := h4
              have HK4 := Lib.hid ((hgrow4.block g1 (by have := HG1.out; first | omega | (simp; done) | (simp; omega)) (fun e => (HSEP.out g1 e.symm).2 rfl)).trans ((heap_alloc_old _ _ (by have := HG1.out; first | omega | (simp; done) | (simp; omega))).trans rfl))
              have u2 : w4.cell? ⟨hb, 1, none⟩ = some (.slice A3 acc.length c3) := cell_of_row _ _ 1 _ _ (0, 0) h4a
              have uf := frozen_of_row w4 hb 1 _ _ h4a
              have H4 := Lib.hid h4b
              clear h4a h4b hown4 hgrow4 hat4 hlt4
              refine hK.out _ _ (HKX.out _ HK4.out) (fun hHeld => ?_)
              clear hK K
              try simp only [Act.put, List.setIfInBounds_toArray, List.set_cons_zero, List.set_cons_succ]
              refine wpAnyH_take (i := 11) (v := ?_) rfl (by kernel_rfl) (by kernel_rfl) (by kernel_rfl) (fun _ _ _ h => h) (Or.inl ⟨by rfl, ?_⟩) (by assumption) ?_
              rotate_left
              · intro w hSw
                try dsimp only at hSw
                go_simp
                try with_reducible rfl
              try simp only [Act.put, List.setIfInBounds_toArray, List.set_cons_zero, List.set_cons_succ]
              refine wpAnyH_ready (rs := [12]) (by kernel_rfl) (by simp) ?_
              refine AllReadyH.cons rfl (fun K hK => ?_) AllReadyH.nil
              go_simp
              refine hK.out _ _ (HKX.out _ ((Gn.set_keep _ 1 _ (fun e => HGH.out e.symm)).trans HK4.out)) (fun hHeld => ?_)
              clear hK K
              try simp only [Act.put, List.setIfInBounds_toArray, List.set_cons_zero, List.set_cons_succ]
              refine wpAnyH_done (by kernel_rfl) ?_ _
              refine NoPanic.normal ?_
              go_wp2_with fail
              first
                | go_meet
                | (rename_i d1 h1; cases h1; go_meet)
                | (rename_i d1 h1 dd d2 h2; cases h1; cases h2; go_meet)
                | (rename_i d1 h1 dd d2 h2 de d3 h3; cases h1; cases h2; cases h3; go_meet)
              rw [← HACC2.out]
              exact ⟨_, _, H4.out⟩
            refine AllReadyH.cons rfl (fun K hK => ?_) AllReadyH.nil
            · go_simp
              refine hK.out _ _ (HKX.out _ ((heap_alloc_old _ _ (by have := HG1.out; first | omega | (simp; done) | (simp; omega))).trans rfl)) (fun hHeld => ?_)
              clear hK K
              try simp only [Act.put, List.setIfInBounds_toArray, List.set_cons_zero, List.set_cons_succ]
              refine wpAnyH_ready (rs := [1]) (by kernel_rfl) (by simp) ?_
              refine AllReadyH.cons rfl (fun K hK => ?_) AllReadyH.nil
              go_simp
              refine hK.out _ _ (HKX.out _ ((heap_alloc_old _ _ (by have := HG1.out; first | omega | (simp; done) | (simp; omega))).trans rfl)) (fun hHeld => ?_)
              clear hK K
              try simp only [Act.put, List.setIfInBounds_toArray, List.set_cons_zero, List.set_cons_succ]
              refine wpAnyH_ready (rs := [10]) (by kernel_rfl) (by simp) ?_
              refine AllReadyH.cons rfl (fun K hK => ?_) AllReadyH.nil
              refine step_append_lies _ (by rfl) (.tmp 45) (.tmp 53) 23 (by rfl) V.heap.size 65 i0 _ 4 64 Try.underlying23 hi0 hz0 hz1 hz2 rfl (by decide) (.slice A3 acc.length c3) acc.length (cells4 vs3) (by simp [Act.eval]) (HV3.out.alloc _) ⟨wr.heap.size, 0, none⟩ 1 1 [.string sm, .int .i64 3, .string ⟨#[]⟩, .slice none 0 0] (by simp [Act.eval]) rfl (fun j u hu => by
                  have := cell_of_row _ _ j _ _ (0, 0) (heap_alloc_new wr.drew (.cells #[.string sm, .int .i64 3, .string ⟨#[]⟩, .slice none 0 0] 65))
                  match j, hu with
                  | 0, hu => exact this.trans hu
                  | 1, hu => exact this.trans hu
                  | 2, hu => exact this.trans hu
                  | 3, hu => exact this.trans hu
                  | _ + 4, hu => simp at hu) (by simp [Value.oneCell']) (by decide) (by have : maxLen = 9223372036854775807 := rfl; omega) (by omega) (by simp; omega) _ rfl ?_
              intro gq cap4 w4 hown4 hgrow4 hat4 hlt4
              have h4 := HD.out.snoc (s := L[j]) (gq := gq) (cp' := cap4) (fun vs4 hv4 => by rw [Gn.owns_uniq hv4 HV3.out, ← HSM.out]; exact hown4) hgrow4 hat4
              obtain ⟨h4a, h4b⟩ := h4
              have HK4 := Lib.hid ((hgrow4.block g1 (by have := HG1.out; first | omega | (simp; done) | (simp; omega)) (fun e => (HSEP.out g1 e.symm).2 rfl)).trans ((heap_alloc_old _ _ (by have := HG1.out; first | omega | (simp; done) | (simp; omega))).trans rfl))
              have u2 : w4.cell? ⟨hb, 1, none⟩ = some (.slice A3 acc.length c3) := cell_of_row _ _ 1 _ _ (0, 0) h4a
              have uf := frozen_of_row w4 hb 1 _ _ h4a
              have H4 := Lib.hid h4b
              clear h4a h4b hown4 hgrow4 hat4 hlt4
              refine hK.out _ _ (HKX.out _ HK4.out) (fun hHeld => ?_)
              clear hK K
              try simp only [Act.put, List.setIfInBounds_toArray, List.set_cons_zero, List.set_cons_succ]
              refine wpAnyH_take (i := 11) (v := ?_) rfl (by kernel_rfl) (by kernel_rfl) (by kernel_rfl) (fun _ _ _ h => h) (Or.inl ⟨by rfl, ?_⟩) (by assumption) ?_
              rotate_left
              · intro w hSw
                try dsimp only at hSw
                go_simp
                try with_reducible rfl
              try simp only [Act.put, List.setIfInBounds_toArray, List.set_cons_zero, List.set_cons_succ]
              refine wpAnyH_ready (rs := [12]) (by kernel_rfl) (by simp) ?_
              refine AllReadyH.cons rfl (fun K hK => ?_) AllReadyH.nil
              go_simp
              refine hK.out _ _ (HKX.out _ ((Gn.set_keep _ 1 _ (fun e => HGH.out e.symm)).trans HK4.out)) (fun hHeld => ?_)
              clear hK K
              try simp only [Act.put, List.setIfInBounds_toArray, List.set_cons_zero, List.set_cons_succ]
              refine wpAnyH_done (by kernel_rfl) ?_ _
              refine NoPanic.normal ?_
              go_wp2_with fail
              first
                | go_meet
                | (rename_i d1 h1; cases h1; go_meet)
                | (rename_i d1 h1 dd d2 h2; cases h1; cases h2; go_meet)
                | (rename_i d1 h1 dd d2 h2 de d3 h3; cases h1; cases h2; cases h3; go_meet)
              rw [← HACC2.out]
              exact ⟨_, _, H4.out⟩
          · have HACC2 := Lib.hid (show acc = G.rules ++ newR (missL G.rules (L.take (j + 1))) by
              rw [HMT.out, if_neg (by have := HFG.out; omega), HAC.out])
            go_wp2_with fail
            first
              | go_meet
              | skip
            rw [← HACC2.out]
            exact ⟨_, _, HA3.out⟩
        case rest =>
          obtain ⟨A4, c4, hA4⟩ := hcut
          have HA4 := Lib.hid hA4
          have q0 := (World.ownsRow.cellAt hA4.tab (j * 3) (by omega)).trans (show tc[j * 3]? = some (.string sm) from by
            have h1 := World.ownsRow.cellAt HA3.out.tab (j * 3) (by omega)
            rw [← h1]; exact x0)
          have y0 := (hA4.below.cell (p := ⟨w2.heap.size, 0, none⟩) HGB.out).trans HX0.out
          clear hA4 hA3 x0 x1
          cases bo
          · by_cases hx : (sm.toList == tx.toList) = true
            · have HS2 := Lib.hid (show decide (G.start ∈ L.take (j + 1)) = true by rw [HST.out, hx]; rfl)
              go_wp2_with fail
              go_quiet (fail)
              go_wp2
              go_roundw
              case rel => exact ⟨j + 1, A4, c4, by omega, by simp, by rw [HS2.out], HA4.out.under (Gn.below_drewN (Below.refl _ _) _)⟩
              case measure => simp [intOf]; omega
            · have hx2 : (sm.toList == tx.toList) = false := by simpa using hx
              have HS2 := Lib.hid (show decide (G.start ∈ L.take (j + 1)) = false by rw [HST.out, hx2]; rfl)
              go_wp2_with fail
              go_quiet (fail)
              go_wp2
              go_roundw
              case rel => exact ⟨j + 1, A4, c4, by omega, by simp, by rw [HS2.out], HA4.out.under (Gn.below_drewN (Below.refl _ _) _)⟩
              case measure => simp [intOf]; omega
          · have HS2 := Lib.hid (show decide (G.start ∈ L.take (j + 1)) = true by rw [HST.out]; rfl)
            go_wp2_with fail
            go_quiet (fail)
            go_wp2
            go_roundw
            case rel => exact ⟨j + 1, A4, c4, by omega, by simp, by rw [HS2.out], HA4.out.under (Gn.below_drewN (Below.refl _ _) _)⟩
            case measure => simp [intOf]; omega
      · have hlt2 : ¬ (j : Int) < (N : Int) := by omega
        have HBE := Lib.hid (show bo = decide (G.start ∈ L) by rw [HBO.out, List.take_of_length_le (by have := HNP.out; omega)])
        have HAE := Lib.hid (show acc = G.rules ++ newR (missL G.rules L) by rw [HAC.out, List.take_of_length_le (by have := HNP.out; omega)])
        have hHB := Gn.heap_lt hA3.hbx
        have y0 := (hA3.below.cell (p := ⟨w2.heap.size, 0, none⟩) HGB.out).trans HX0.out
        go_upto_if 68 with fail
        go_cut [] (fun wx => ∃ (A4 : Option Addr) (c4 : Nat), AdAt V hb tx (.slice TA N d) N tc A4 c4 (G.rules ++ newR (addX G L)) wx)
        case first =>
          cases bo
          · have hno : G.start ∉ L := of_decide_eq_false HBE.out.symm
            have HACC2 := Lib.hid (show acc ++ [(G.start, .node 3 [] [])] = G.rules ++ newR (addX G L) by
              unfold addX
              rw [if_neg hno, HAE.out, List.append_assoc, ← Sx.newR_snoc])
            obtain ⟨vs3, hv1, hv2, hv3⟩ := hA3.items
            have HV3 := Lib.hid hv2
            have o1 : wr.cell? ⟨hb, 1, none⟩ = some (.slice A3 acc.length c3) := cell_of_row _ _ 1 _ _ (0, 0) hA3.hbx
            have HNEW := Lib.hid (Gn.row_new wr [.string tx, .int .i64 3, .string ⟨#[]⟩, .slice none 0 0] 65 wr.heap.size rfl)
            have hVs := hA3.below.size
            clear hv1 hv2 hv3 hA3 hno
            go_wp2_with (at_builtin; refine wpList_append_lies _ rfl _ _ 23 rfl V.heap.size 65 i0 _ 4 64 Try.underlying23 hi0 hz0 hz1 hz2 rfl (by decide) (.slice A3 acc.length c3) acc.length (cells4 vs3) rfl (HV3.out.alloc _) ⟨wr.heap.size, 0, none⟩ 1 1 [.string tx, .int .i64 3, .string ⟨#[]⟩, .slice none 0 0] rfl rfl HNEW.out (by simp [Value.oneCell']) (by decide) (by unfold maxLen; omega) (by omega) (by simp; omega) _ rfl ?_; intro gq cap4 w4 hown4 hgrow4 hat4 hlt4; have h4 := HA3.out.snoc (s := G.start) (gq := gq) (cp' := cap4) (fun vs4 hv4 => by rw [Gn.owns_uniq hv4 HV3.out, ← HTX.out]; exact hown4) hgrow4 hat4; have u2 : w4.cell? ⟨hb, 1, none⟩ = some (.slice A3 acc.length c3) := cell_of_row _ _ 1 _ _ (0, 0) h4.1; have uf := frozen_of_row w4 hb 1 _ _ h4.1; have H4 := Lib.hid h4.2; clear h4 hown4 hgrow4 hat4 hlt4)
            first
              | go_meet
              | skip
            rw [← HACC2.out]
            exact ⟨_, _, H4.out⟩
          · have hno : G.start ∈ L := of_decide_eq_true HBE.out.symm
            have HACC2 := Lib.hid (show acc = G.rules ++ newR (addX G L) by
              unfold addX
              rw [if_pos hno, HAE.out, List.append_nil])
            clear hno
            go_wp2_with fail
            first
              | go_meet
              | skip
            rw [← HACC2.out]
            exact ⟨_, _, HA3.out⟩
        case rest =>
          obtain ⟨A4, c4, hA4⟩ := hcut
          obtain ⟨G2, hG2⟩ : ∃ G2 : Gram, G2 = ⟨G.start, G.rules ++ newR (addX G L)⟩ := ⟨_, rfl⟩
          have hr2 := hA4.items.rls hA4.below
          have hbx4 := hA4.hbx
          have HB4 := Lib.hid hA4.below
          have hgr : G.rules ++ newR (addX G L) = G2.rules := by rw [hG2]
          have hgs : G.start = G2.start := by rw [hG2]
          have hln : G2.rules.length ≤ 65536 := by
            rw [← hgr, List.length_append, Sx.newR_len]
            have := Sx.addX_len G L
            have := HPOS.out.2.1
            have := HNP.out
            omega
          have hsm := Sx.new_small (G := G) (L := L) (K := 1001) HM1.out (fun r hr => ⟨(HM3.out r hr).1, (HM3.out r hr).2.1, HPOS.out.2.2 r hr⟩) (by rw [HLL.out]; exact Sx.L_small fun r hr => ⟨(HM3.out r hr).1, (HM3.out r hr).2.1⟩)
          obtain ⟨ad1, ad2⟩ := Sx.adds_are G L (by rw [HLL.out]; exact Sx.L_nodup _) (by rw [HLL.out]; exact Sx.L_rules _) (by rw [HLL.out]; exact Sx.L_refs _)
          rw [← hG2] at ad1 ad2
          rw [hgr] at hr2 hbx4 hsm
          have o0 := cell_of_row _ _ 0 _ _ (0, 0) hbx4
          have o1 := cell_of_row _ _ 1 _ _ (0, 0) hbx4
          have HKC := Lib.hid (show Calls Try.prog 17 #[.agg #[.string tx, .slice A4 G2.rules.length c4]] wc fun e w'' => ∃ v, e = .returned v ∧ Below wc.heap.size wc w'' ∧ w''.ownsRow wc.heap.size 48 3 v (checkP G2).length (cellsP (checkP G2)) from by
            rw [HTX.out, hgs]
            exact (Sx.check_any G2 hln (by rw [← hgs]; exact HM1.out) 1001 (by decide) hsm _ wc _ hr2).mono fun e w'' ⟨pv, h1, h2, h3⟩ => ⟨pv, h1, h3, h2⟩)
          obtain ⟨ps, hps⟩ : ∃ ps, ps = checkP G2 := ⟨_, rfl⟩
          rw [← hps] at HKC ad1 ad2
          obtain ⟨M, hM⟩ : ∃ M, M = ps.length := ⟨_, rfl⟩
          rw [← hM] at HKC ad2
          have HM9 := Lib.hid hM
          have HAD1 := Lib.hid ad1
          have HAD2 := Lib.hid ad2
          have hM64 : M ≤ 64 := by
            rw [ad2]
            have := Sx.twGo_le G.rules G.rules 0
            have := HPOS.out.2.1
            omega
          have HNM := Lib.hid (fun (i : Nat) (hi : i < G.rules.length) (w' : World) (b : Below V.heap.size V w') => (show w'.cell? ⟨r, i * 4, none⟩ = some (.string (Lx.mk G.rules[i].1)) from by
            have hiv : i < vs.length := by rw [HVL.out]; exact hi
            have c := (Sx.cells4_at vs i hiv).1
            rw [(HND.out i hi hiv).1] at c
            have h5 := HNEWS.out (i * 4) _ c
            rw [Lx.add_row] at h5
            exact (b.cell (p := ⟨r, i * 4, none⟩) HR.out).trans h5))
          clear hA4 hr2 hbx4 hgr hgs hln hsm ad1 ad2 hps hM hA3 hG2 y0 HBE HAE HA3 HBO HAC
          go_wp2_with fail
          refine HKC.out.mono ?_
          rintro e w9 ⟨pv, rfl, b9, hp9⟩
          obtain ⟨PA, pc, rfl⟩ := Gn.slice_of hp9
          have HP9 := Lib.hid hp9
          have HB9 := Lib.hid (HB4.out.trans (b9.mono HB4.out.size))
          clear b9 hp9 HKC o0 o1
          have HN64 := Lib.hid hn64
          go_wp2_with fail
          go_loopw [10, 11] (fun t2 i wx => ∃ q : Nat, q ≤ n ∧ i = .int .i64 q ∧ t2 = .int .i64 (twGo G.rules 0 (G.rules.take q) : Nat) ∧ Below w9.heap.size w9 wx) (fun _ i _ => n - (intOf i).toNat)
          case atStart => exact ⟨0, Nat.zero_le _, rfl, rfl, Below.refl _ _⟩
          case round =>
            obtain ⟨q, hq, rfl, rfl, hb9⟩ := hrel
            have HQ := Lib.hid hb9
            obtain ⟨tw, htw⟩ : ∃ tw, tw = twGo G.rules 0 (G.rules.take q) := ⟨_, rfl⟩
            rw [← htw]
            have HTW := Lib.hid htw
            have htl : tw ≤ 64 := by
              rw [htw]
              have := Sx.twGo_le G.rules (G.rules.take q) 0
              rw [List.length_take] at this
              have := HPOS.out.2.1
              omega
            have y1 := ((HB9.out.trans (hb9.mono HB9.out.size)).cell (p := ⟨w2.heap.size, 1, none⟩) HGB.out).trans HX1.out
            clear htw hb9
            by_cases hlq : q < n
            · have hlq2 : (q : Int) < (n : Int) := by omega
              have hql : q < G.rules.length := by rw [← HNN.out]; exact hlq
              have HQL := Lib.hid hql
              go_wp2_with fail
              go_loopw [10, 12] (fun t2 k wx => ∃ m : Nat, m ≤ q ∧ k = .int .i64 m ∧ t2 = .int .i64 tw ∧ (∀ (i : Nat) (h : i < G.rules.length), i < m → (G.rules[i]).1 ≠ (G.rules[q]'hql).1) ∧ Below w9.heap.size w9 wx) (fun _ k _ => q - (intOf k).toNat)
              case atStart => exact ⟨0, Nat.zero_le _, rfl, rfl, fun i _ h => absurd h (by omega), HQ.out⟩
              case round =>
                obtain ⟨m, hm, rfl, rfl, hno, hb10⟩ := hrel
                have HNO := Lib.hid hno
                have HB10 := Lib.hid hb10
                have hVx := HB9.out.trans (hb10.mono HB9.out.size)
                have y1 := (hVx.cell (p := ⟨w2.heap.size, 1, none⟩) HGB.out).trans HX1.out
                clear hno hb10
                by_cases hlm : m < q
                · have hlm2 : (m : Int) < (q : Int) := by omega
                  have hmn : (m : Int) < (n : Int) := by omega
                  have z1 := HNM.out m (by omega) _ hVx
                  have z2 : wr.cell? ⟨r, q * 4, none⟩ = some (.string (Lx.mk (G.rules[q]'hql).1)) := HNM.out q hql _ hVx
                  have hT := Sx.textEq (G.rules[m]'(by omega)).1 (G.rules[q]'hql).1
                  by_cases hx : (G.rules[m]'(by omega)).1 = (G.rules[q]'hql).1
                  · have HY := Lib.hid (Sx.twice_yes G.rules q m hql hlm hx)
                    rw [decide_eq_true hx] at hT
                    obtain ⟨xm, hxm⟩ : ∃ xm, xm = Lx.mk (G.rules[m]'(by omega)).1 := ⟨_, rfl⟩
                    obtain ⟨xq, hxq⟩ : ∃ xq, xq = Lx.mk (G.rules[q]'hql).1 := ⟨_, rfl⟩
                    rw [← hxm] at hT z1
                    rw [← hxq] at hT z2
                    clear hx hxm hxq hVx
                    go_wp2_with fail
                    go_quiet (fail)
                    go_wp2
                    go_roundw
                    case rel => exact ⟨q + 1, by omega, by simp, by rw [HY.out, ← HTW.out]; simp, Gn.below_drewN HB10.out _⟩
                    case measure => simp [intOf]; omega
                  · have HNX := Lib.hid (show ∀ (i : Nat) (h : i < G.rules.length), i < m + 1 → (G.rules[i]).1 ≠ (G.rules[q]'hql).1 from fun i hil hi => by
                      by_cases e : i = m
                      · subst e; exact hx
                      · exact HNO.out i hil (by omega))
                    rw [decide_eq_false hx] at hT
                    obtain ⟨xm, hxm⟩ : ∃ xm, xm = Lx.mk (G.rules[m]'(by omega)).1 := ⟨_, rfl⟩
                    obtain ⟨xq, hxq⟩ : ∃ xq, xq = Lx.mk (G.rules[q]'hql).1 := ⟨_, rfl⟩
                    rw [← hxm] at hT z1
                    rw [← hxq] at hT z2
                    clear hx hxm hxq hVx
                    go_wp2_with fail
                    go_quiet (fail)
                    go_wp2
                    go_roundw
                    case rel => exact ⟨m + 1, by omega, by simp, by trivial, HNX.out, Gn.below_drewN HB10.out _⟩
                    case measure => simp [intOf]; omega
                · have hlm2 : ¬ (m : Int) < (q : Int) := by omega
                  obtain rfl : m = q := by omega
                  have HY := Lib.hid (Sx.twice_no G.rules m hql (fun i hi => HNO.out i (by omega) hi))
                  clear hVx
                  go_wp2
                  go_roundw
                  case rel => exact ⟨m + 1, by omega, by simp, by rw [HY.out, ← HTW.out], HB10.out⟩
                  case measure => simp [intOf]; omega
            · have hlq2 : ¬ (q : Int) < (n : Int) := by omega
              have htm : tw = M := by rw [HTW.out, HAD2.out, List.take_of_length_le (by have := HNN.out; omega)]
              subst htm
              have en : ((tw : Int) == (tw : Int)) = true := by rw [beq_iff_eq]
              go_wp2_with fail
              go_loopw [13] (fun i wx => ∃ m : Nat, m ≤ tw ∧ i = .int .i64 m ∧ Below w9.heap.size w9 wx) (fun i _ => tw - (intOf i).toNat)
              case atStart => exact ⟨0, Nat.zero_le _, rfl, HQ.out⟩
              case round =>
                obtain ⟨m, hm, rfl, hb10⟩ := hrel
                have HB10 := Lib.hid hb10
                by_cases hlm : m < tw
                · have hlm2 : (m : Int) < (tw : Int) := by omega
                  have hml : m < ps.length := by rw [← HM9.out]; exact hlm
                  have k1 := Sx.own_under HP9.out hb10
                  obtain ⟨g4, d4, e4⟩ := Sx.row_some k1 (by omega)
                  injection e4 with e4 _ e4'
                  subst e4 e4'
                  have z0 := (World.ownsRow.cellAt k1 (m * 3) (by omega)).trans ((Sx.cellsP_at ps m hml).1.trans (show some (Value.int .i64 (ps[m].1 : Int)) = some (Value.int .i64 9) by rw [HAD1.out _ (List.getElem_mem hml)]; rfl))
                  clear k1 hb10
                  go_wp2
                  go_roundw
                  case rel => exact ⟨m + 1, by omega, by simp, HB10.out⟩
                  case measure => simp [intOf]; omega
                · have hlm2 : ¬ (m : Int) < (tw : Int) := by omega
                  have HE := Lib.hid (HV.out.trans ((HB9.out.trans (hb10.mono HB9.out.size)).mono HV.out.size))
                  clear hb10
                  go_wp2
                  go_ret
                  exact ⟨rfl, HE.out⟩

set_option maxRecDepth 100000 in
theorem lifted (os : Os) (started : os.Started) (H : Type) (enc : TypeId × Value → H) :
    ReturnsInHanded {} Try.checked os 6 .any (Rows.symbolsAddsSpec.pre6 enc Try.prog Try.f6 Rows.symbolsAddsRow.domain false) (Rows.symbolsAddsSpec.post enc Try.prog Try.f6 false true false false) := by
  refine returnsInHanded_of_change (C := Try.checked) own started (by kernel_rfl) Try.func6
    (ChangeSpec.witness6 (enc := enc) (C := Try.checked) false ⟨#[], #[.string ByteArray.empty], []⟩ 8 (by kernel_rfl) (by kernel_rfl) (by kernel_rfl) (by kernel_rfl)) ?_
  intro W base args ds gs before hval0 hW hcnd _
  have hval : ∀ (j : Nat) t v, Try.f6.params[j]? = some t → args[j]? = some v → Value.okWide Try.prog W .any base t v := hval0
  have hW' := hW
  obtain ⟨p, q, hA0, hV, rfl, hfz, hnd⟩ := hW
  have hA : DataW.TrodAll enc Try.prog W 0 (fun _ => true) true Try.f6.params.toList args.toList ds p := hA0
  rw [Try.params6] at hA hval
  obtain ⟨v0, vs0, d0, ds0, p0, q0, hargs, rfl, rfl, h0, r0⟩ := trodAll_cons hA
  obtain ⟨rfl, rfl, rfl⟩ := trodAll_nil r0
  obtain rfl : args = #[v0] := by cases args; simp_all
  obtain ⟨rfl, rfl⟩ := trodVars_none hV
  obtain ⟨a0, rfl, rfl, rfl, w0⟩ := open_string Try.underlying9 (hval 0 9 v0 rfl rfl) h0
  clear hA0 hval0
  refine (walk a0 w0 W).mono fun e W' ⟨he, bel⟩ => ?_
  subst he
  exact ⟨_, rfl, _, _, _, [], _, [], hW', trodAll_mk1 (shut_bool Try.underlying4 _), (trodAll_cons_mk (shut_string Try.underlying9 w0) trodAll_mk0), rfl, bel.frame _, fun h => by cases h⟩

theorem over : Rows.SymbolsAddsSaid :=
  OpenClaim.holds_of_wide 6 Try.f6 rfl rfl rfl rfl rfl rfl rfl ⟨rfl, rfl, rfl, rfl, rfl⟩ rfl rfl rfl rfl rfl (by kernel_rfl) Try.func6 (by kernel_rfl)
    (of_decide_eq_true (by kernel_rfl)) (by unfold Func.isWrapper; first | (rw [if_pos (by decide +kernel)]; kernel_rfl) | (rw [if_neg (by decide +kernel)]; exact ⟨rfl, rfl⟩))
    (fun os started H enc _ => lifted os started H enc)

theorem proved : Rows.SymbolsAddsSaid := over
#print axioms proved

