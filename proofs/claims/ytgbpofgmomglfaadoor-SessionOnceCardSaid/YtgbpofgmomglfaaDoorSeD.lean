/-
  Layer 26: Busy, Tick.
-/
import Derived.Test.YtgbpofgmomglfaaDoorSeC
import Derived.OwnWalk
namespace Go.Proofs.YtgbpofgmomglfaaDoor.Se
open Go.RowKit
set_option maxRecDepth 100000
set_option linter.unusedSimpArgs false
set_option linter.unusedVariables false
theorem busy_any {w : World} {sb : Nat} {cl mo nu vi ti : Int} {fr : ByteArray} (h : SesAt w sb ⟨cl, mo, nu, vi, fr, ti⟩) :
    Calls Tryd.prog 9 #[.pointer (some ⟨sb, 0, none⟩)] w (fun e w' => e = .returned (.tuple #[.int .i64 nu, .bool (!fr.toList.isEmpty)]) ∧ Below w.heap.size w w') := by
  have hnil := isnt_nil w ⟨sb, 0, none⟩
  have HD := Lib.hid (show SesAt w.drew sb ⟨cl, mo, nu, vi, fr, ti⟩ from h)
  have HAW := Lib.hid (awaits_any HD.out)
  simp only at HAW
  obtain ⟨aw, haw⟩ : ∃ x, x = !fr.toList.isEmpty := ⟨_, rfl⟩
  rw [← haw] at HAW ⊢
  have HS3 := Lib.hid (fun (w' : World) (h : SesAt w' sb ⟨cl, mo, nu, vi, fr, ti⟩) => show (fun w' : World => w'.cell? ⟨sb, 2, none⟩ = some (.int .i64 nu)) w' from cell_of_row _ _ 2 _ _ (0, 0) h)
  clear h haw
  go_enter Tryd.func9, Tryd.ntmps9
  go_upto_region 3 with fail
  refine wp_region_noPanic ?_
  refine wp_region_held_drew (S := (fun w' : World => w'.cell? ⟨sb, 2, none⟩ = some (.int .i64 nu))) (by kernel_rfl) ?_ (fun hHeld => ?_)
  · exact HS3.out _ HD.out
  conv in Array.replicate _ false => change #[false, false, false, false, false, false, false, false]
  refine wpAnyH_take (i := 0) (v := ?_) rfl (by kernel_rfl) (by kernel_rfl) (by kernel_rfl) (fun _ _ _ h => h) (Or.inl ⟨by rfl, ?_⟩) (by assumption) ?_
  rotate_left
  · intro w hSw
    try dsimp only at hSw
    go_simp
    try with_reducible rfl
  try simp only [Act.put, List.getElem_toArray, List.getElem_cons_zero, List.getElem_cons_succ, List.setIfInBounds_toArray, List.set_cons_zero, List.set_cons_succ]
  refine wpAnyH_take (i := 1) (v := ?_) rfl (by kernel_rfl) (by kernel_rfl) (by kernel_rfl) (fun _ _ _ h => h) (Or.inl ⟨by rfl, ?_⟩) (by assumption) ?_
  rotate_left
  · intro w hSw
    try dsimp only at hSw
    go_simp
    try with_reducible rfl
  try simp only [Act.put, List.getElem_toArray, List.getElem_cons_zero, List.getElem_cons_succ, List.setIfInBounds_toArray, List.set_cons_zero, List.set_cons_succ]
  refine wpAnyH_take (i := 2) (v := ?_) rfl (by kernel_rfl) (by kernel_rfl) (by kernel_rfl) (fun _ _ _ h => h) (Or.inl ⟨by rfl, ?_⟩) (by assumption) ?_
  rotate_left
  · intro w hSw
    try dsimp only at hSw
    go_simp
    try with_reducible rfl
  try simp only [Act.put, List.getElem_toArray, List.getElem_cons_zero, List.getElem_cons_succ, List.setIfInBounds_toArray, List.set_cons_zero, List.set_cons_succ]
  refine wpAnyH_take (i := 3) (v := ?_) rfl (by kernel_rfl) (by kernel_rfl) (by kernel_rfl) (fun _ _ _ h => h) (Or.inl ⟨by rfl, ?_⟩) (by assumption) ?_
  rotate_left
  · intro w hSw
    try dsimp only at hSw
    go_simp
    try with_reducible rfl
  try simp only [Act.put, List.getElem_toArray, List.getElem_cons_zero, List.getElem_cons_succ, List.setIfInBounds_toArray, List.set_cons_zero, List.set_cons_succ]
  refine wpAnyH_take (i := 4) (v := ?_) rfl (by kernel_rfl) (by kernel_rfl) (by kernel_rfl) (fun _ _ _ h => h) (Or.inl ⟨by rfl, ?_⟩) (by assumption) ?_
  rotate_left
  · intro w hSw
    try dsimp only at hSw
    go_simp
    try with_reducible rfl
  try simp only [Act.put, List.getElem_toArray, List.getElem_cons_zero, List.getElem_cons_succ, List.setIfInBounds_toArray, List.set_cons_zero, List.set_cons_succ]
  refine wpAnyH_ready (rs := [5]) (by kernel_rfl) (by simp) ?_
  refine AllReadyH.cons rfl (fun K hK => ?_) AllReadyH.nil
  go_simp
  go_at_call 15
  refine HAW.out.mono ?_
  rintro e wq ⟨rfl, rfl⟩
  refine hK.out _ _ (HS3.out _ HD.out) (fun hHeld => ?_)
  clear hK K
  try simp only [Act.put, List.getElem_toArray, List.getElem_cons_zero, List.getElem_cons_succ, List.setIfInBounds_toArray, List.set_cons_zero, List.set_cons_succ]
  refine wpAnyH_ready (rs := [6]) (by kernel_rfl) (by simp) ?_
  refine AllReadyH.cons rfl (fun K hK => ?_) AllReadyH.nil
  go_simp
  refine hK.out _ _ (HS3.out _ HD.out) (fun hHeld => ?_)
  clear hK K
  try simp only [Act.put, List.getElem_toArray, List.getElem_cons_zero, List.getElem_cons_succ, List.setIfInBounds_toArray, List.set_cons_zero, List.set_cons_succ]
  refine wpAnyH_ready (rs := [7]) (by kernel_rfl) (by simp) ?_
  refine AllReadyH.cons rfl (fun K hK => ?_) AllReadyH.nil
  go_simp
  refine hK.out _ _ (HS3.out _ HD.out) (fun hHeld => ?_)
  clear hK K
  try simp only [Act.put, List.getElem_toArray, List.getElem_cons_zero, List.getElem_cons_succ, List.setIfInBounds_toArray, List.set_cons_zero, List.set_cons_succ]
  refine wpAnyH_done (by kernel_rfl) ?_ _
  refine NoPanic.normal ?_
  go_wp2_with fail
  go_ret2
  exact ⟨rfl, Gn.below_drew (Below.refl _ _)⟩
def outC (k : Nat) (fr : ByteArray) : List Value := [.int .i64 (k : Int), .string fr]
def outsC (n : Nat) (fr : ByteArray) : List Value := (List.range n).flatMap fun k => outC k fr
theorem outsC_succ (n : Nat) (fr : ByteArray) : outsC (n + 1) fr = outsC n fr ++ outC n fr := by simp [outsC, List.range_succ]
theorem out_one (k : Nat) (fr : ByteArray) : ∀ u ∈ outC k fr, u.oneCell' = true := by
  intro u hu
  simp only [outC, List.mem_cons, List.not_mem_nil, or_false] at hu
  rcases hu with rfl | rfl <;> rfl
theorem out_info : (Tryd.prog.info? 40).map (fun i => (i.zero, i.size, i.bytes)) = some (some (.agg #[.int .i64 0, .string ⟨#[]⟩]), 2, 24) := by kernel_rfl
theorem grown_sep {sb c : Nat} {w w1 w2 : World} {e : TypeId} {size n : Nat} {v : Value} {xs : List Value} (h : Gn.Sep sb c w w1) (hc : c ≤ w1.heap.size) (hown : w1.ownsRow c e size v n xs) (hg : w1.grownBy w2 v.ownBlock) : Gn.Sep sb c w w2 := by
  have ho := Gn.own_block hown
  obtain ⟨g1, g2, g3, g4, g5⟩ := hg
  exact h.trans ⟨g1, g2, g3, g4, fun k hk hne => g5 k (by omega) (fun e => by have := ho k e.symm; omega)⟩
theorem grown_ses {sb c : Nat} {w1 w2 : World} {e : TypeId} {size n : Nat} {v : Value} {xs : List Value} {s : Ses} (h : SesAt w1 sb s) (hc : sb < c) (hown : w1.ownsRow c e size v n xs) (hg : w1.grownBy w2 v.ownBlock) : SesAt w2 sb s := by
  have ho := Gn.own_block hown
  obtain ⟨g1, g2, g3, g4, g5⟩ := hg
  exact (g5 sb (Gn.heap_lt h) (fun e => by have := ho sb e.symm; omega)).trans h
theorem own_under {w w' : World} {base : Nat} {e : TypeId} {size n : Nat} {v : Value} {xs : List Value} (h : w.ownsRow base e size v n xs) (b : Below w.heap.size w w') : w'.ownsRow base e size v n xs := by
  refine ⟨h.1, ?_⟩
  rcases h.2 with h2 | ⟨g', cap, cur, h1, h2, hh, hrest⟩
  · exact .inl h2
  · exact .inr ⟨g', cap, cur, h1, h2, (b.block _ (Gn.heap_lt hh)).trans hh, hrest⟩
/-- What a Tick leaves that sends nothing. -/
def TickT (w : World) (sb : Nat) (s' : Ses) (e : Ending) (w' : World) : Prop := e = .returned (.slice none 0 0) ∧ SesAt w' sb s' ∧ Gn.Sep sb w.heap.size w w'
/-- What a Tick leaves that sends. -/
def SentT (w : World) (sb n : Nat) (s' : Ses) (e : Ending) (w' : World) : Prop := ∃ A cap, e = .returned (.slice A n cap) ∧ w'.ownsRow w.heap.size 40 2 (.slice A n cap) n (outsC n s'.fr) ∧ SesAt w' sb s' ∧ Gn.Sep sb w.heap.size w w'
set_option maxHeartbeats 8000000 in
theorem tick_wait {w : World} {sb : Nat} {cl mo nu vi ti : Int} {fr : ByteArray} (h : SesAt w sb ⟨cl, mo, nu, vi, fr, ti⟩) (hfr : fr.toList.isEmpty = false) (h1 : 0 ≤ ti) (h2 : ti < 3) :
    Calls Tryd.prog 10 #[.pointer (some ⟨sb, 0, none⟩)] w (TickT w sb ⟨cl, mo, nu, vi, fr, ti + 1⟩) := by
  have HAW := Lib.hid (awaits_any h)
  simp only [hfr, Bool.not_false] at HAW
  have hnil := isnt_nil w ⟨sb, 0, none⟩
  have hnt := not_run true w
  have s0 := cell_of_row _ _ 0 _ _ (0, 0) h
  have s1 := cell_of_row _ _ 1 _ _ (0, 0) h
  have s2 := cell_of_row _ _ 2 _ _ (0, 0) h
  have s3 := cell_of_row _ _ 3 _ _ (0, 0) h
  have s4 := cell_of_row _ _ 4 _ _ (0, 0) h
  have s5 := cell_of_row _ _ 5 _ _ (0, 0) h
  have z0 := Gn.frozen_row h 0
  have z1 := Gn.frozen_row h 1
  have z2 := Gn.frozen_row h 2
  have z3 := Gn.frozen_row h 3
  have z4 := Gn.frozen_row h 4
  have z5 := Gn.frozen_row h 5
  have HS := Lib.hid h
  clear h
  go_enter Tryd.func10, Tryd.ntmps10
  go_wp2_with fail
  refine HAW.out.mono ?_
  rintro e wq ⟨rfl, rfl⟩
  go_upto_region 4 with fail
  obtain ⟨V, hV⟩ : ∃ x, x = w.setCell ⟨sb, 5, none⟩ (.int .i64 (ti + 1)) := ⟨_, rfl⟩
  rw [← hV]
  have hv : SesAt V sb ⟨cl, mo, nu, vi, fr, ti + 1⟩ := by rw [hV]; exact Gn.heap_set HS.out 5 _
  have HP := Lib.hid (show Gn.Sep sb w.heap.size w V by rw [hV]; exact Gn.Sep.setCell (Gn.Sep.refl _ _ _) (p := ⟨sb, 5, none⟩) (.inl rfl) _)
  have v5 := cell_of_row _ _ 5 _ _ (0, 0) hv
  have HV := Lib.hid hv
  clear hV hv s0 s1 s2 s3 s4 s5 z0 z1 z2 z3 z4 z5
  go_wp2_with fail
  go_ret
  exact ⟨rfl, HV.out, HP.out⟩
set_option maxHeartbeats 16000000 in
theorem tick_sends {w : World} {sb : Nat} {cl mo nu vi : Int} {fr : ByteArray} (h : SesAt w sb ⟨cl, mo, nu, vi, fr, 3⟩) (hfr : fr.toList.isEmpty = false) (r : Nat) (hr : 2 * mo + 1 = (r : Int)) (hr7 : r ≤ 7) (h3 : 1 ≤ mo) :
    Calls Tryd.prog 10 #[.pointer (some ⟨sb, 0, none⟩)] w (SentT w sb r ⟨cl, mo, nu, vi, fr, 0⟩) := by
  obtain ⟨i0, hi0, hz0, hz1, hz2⟩ := Ms.info_split out_info
  have HAW := Lib.hid (awaits_any h)
  simp only [hfr, Bool.not_false] at HAW
  have hnil := isnt_nil w ⟨sb, 0, none⟩
  have hnt := not_run true w
  have s0 := cell_of_row _ _ 0 _ _ (0, 0) h
  have s1 := cell_of_row _ _ 1 _ _ (0, 0) h
  have s2 := cell_of_row _ _ 2 _ _ (0, 0) h
  have s3 := cell_of_row _ _ 3 _ _ (0, 0) h
  have s4 := cell_of_row _ _ 4 _ _ (0, 0) h
  have s5 := cell_of_row _ _ 5 _ _ (0, 0) h
  have z0 := Gn.frozen_row h 0
  have z1 := Gn.frozen_row h 1
  have z2 := Gn.frozen_row h 2
  have z3 := Gn.frozen_row h 3
  have z4 := Gn.frozen_row h 4
  have z5 := Gn.frozen_row h 5
  have HS := Lib.hid h
  have hsb := Gn.heap_lt h
  clear h
  go_enter Tryd.func10, Tryd.ntmps10
  go_wp2_with fail
  refine HAW.out.mono ?_
  rintro e wq ⟨rfl, rfl⟩
  go_upto_region 4 with fail
  obtain ⟨V, hV⟩ : ∃ x, x = w.setCell ⟨sb, 5, none⟩ (.int .i64 4) := ⟨_, rfl⟩
  rw [← hV]
  have hv : SesAt V sb ⟨cl, mo, nu, vi, fr, 4⟩ := by rw [hV]; exact Gn.heap_set HS.out 5 _
  have HP := Lib.hid (show Gn.Sep sb w.heap.size w V by rw [hV]; exact Gn.Sep.setCell (Gn.Sep.refl _ _ _) (p := ⟨sb, 5, none⟩) (.inl rfl) _)
  have v5 := cell_of_row _ _ 5 _ _ (0, 0) hv
  have y5 := Gn.frozen_row hv 5
  have HV := Lib.hid hv
  clear hV hv s0 s1 s2 s3 s4 s5 z0 z1 z2 z3 z4 z5 HAW hnil hnt
  go_upto_region 7 with fail
  obtain ⟨U, hU⟩ : ∃ x, x = V.setCell ⟨sb, 5, none⟩ (.int .i64 0) := ⟨_, rfl⟩
  rw [← hU]
  have HU := Lib.hid (show SesAt U sb ⟨cl, mo, nu, vi, fr, 0⟩ by rw [hU]; exact Gn.heap_set HV.out 5 _)
  have HPU := Lib.hid (show Gn.Sep sb w.heap.size w U by rw [hU]; exact Gn.Sep.setCell HP.out (p := ⟨sb, 5, none⟩) (.inl rfl) _)
  have HRP := Lib.hid (replicas_any HU.out (by show 0 ≤ mo; omega) (by show mo ≤ 100; omega))
  simp only at HRP
  rw [hr] at HRP
  clear hU v5 y5 hr
  go_wp2_with fail
  refine HRP.out.mono ?_
  rintro e wq ⟨rfl, rfl⟩
  go_wp2_with fail
  go_loopw [3, 29] (fun sv i wr => ∃ (k : Nat) (A : Option Addr) (cap : Nat), k ≤ r ∧ sv = .slice A k cap ∧ i = .int .i64 k ∧ wr.ownsRow w.heap.size 40 2 (.slice A k cap) k (outsC k fr) ∧ SesAt wr sb ⟨cl, mo, nu, vi, fr, 0⟩ ∧ Gn.Sep sb w.heap.size w wr) (fun _ i _ => r - (intOf i).toNat)
  case atStart => exact ⟨0, none, 0, by omega, rfl, rfl, World.ownsRow_nil _ _ _ _, HU.out, HPU.out⟩
  case round =>
    obtain ⟨k, A, cap, hk, rfl, rfl, hown, hses, hsep⟩ := hrel
    have HO := Lib.hid hown
    have HSE := Lib.hid hses
    have HSP := Lib.hid hsep
    clear hown hsep
    by_cases hlt : k < r
    · have hlti : (k : Int) < (r : Int) := by omega
      have hki : (k : Int) + 1 ≤ 7 := by omega
      have c4 := cell_of_row _ _ 4 _ _ (0, 0) hses
      have hob := out_build k fr wr
      obtain ⟨w4, hw4⟩ : ∃ x, x = wr.alloc (.cells #[.int .i64 (k : Int), .string fr] 40) := ⟨_, rfl⟩
      have hb4 : Below wr.heap.size wr w4 := by rw [hw4]; exact (Below.refl _ _).alloc (Nat.le_refl _) _
      have HNEW := Lib.hid (show ∀ j u, (outC k fr)[j]? = some u → w4.cell? ((⟨wr.heap.size, 0, none⟩ : Addr).add j) = some u from fun j u hj => by
        rw [Gn.add_row, cell_of_row _ _ j _ _ (0, 0) (by rw [hw4]; exact heap_alloc_new _ _)]
        simpa [outC] using hj)
      have HO4 := Lib.hid (own_under HO.out hb4)
      have HS4 := Lib.hid (HSE.out.under hb4)
      have HP4 := Lib.hid (HSP.out.trans (Gn.Sep.of_below (hb4.mono HSP.out.size)))
      have HROW := Lib.hid HO4.out
      have HSZ := Lib.hid HP4.out.size
      rw [hw4] at HNEW HROW HSZ
      have HW4 := Lib.hid hw4
      clear hb4 hw4 hses
      go_wp2_with (first | (at_builtin; refine wpList_append_own _ rfl (.tmp 32) (.tmp 39) 26 rfl w.heap.size 40 i0 _ 2 24 Tryd.underlying26 hi0 hz0 hz1 hz2 rfl (by decide) (.slice A k cap) k _ rfl HROW.out ⟨wr.heap.size, 0, none⟩ 1 1 (outC k fr) rfl (by rfl) HNEW.out (out_one k fr) (by unfold maxLen; omega) (by omega) HSZ.out ?_; intro v7 w7 h3 h4 h5; have H3 := Lib.hid h3; have H4 := Lib.hid h4; clear h3 h4 h5) | fail)
      obtain ⟨A7, c7, rfl⟩ := Gn.slice_of H3.out
      have HO7 := Lib.hid (show w7.ownsRow w.heap.size 40 2 (.slice A7 (k + 1) c7) (k + 1) (outsC (k + 1) fr) by rw [outsC_succ]; exact H3.out)
      have HG := Lib.hid (show w4.grownBy w7 _ by rw [HW4.out]; exact H4.out)
      have HS7 := Lib.hid (grown_ses HS4.out hsb HO4.out HG.out)
      have HP7 := Lib.hid (grown_sep HP4.out HP4.out.size HO4.out HG.out)
      go_roundw
      case rel => exact ⟨k + 1, A7, c7, by omega, rfl, by go_num, HO7.out, HS7.out, HP7.out⟩
      case measure => simp [intOf]; omega
    · have hkr : k = r := by omega
      subst hkr
      have hlti : ¬ (k : Int) < (k : Int) := by omega
      clear hses
      go_wp2_with fail
      go_ret
      exact ⟨A, cap, rfl, HO.out, HSE.out, HSP.out⟩
end Go.Proofs.YtgbpofgmomglfaaDoor.Se
