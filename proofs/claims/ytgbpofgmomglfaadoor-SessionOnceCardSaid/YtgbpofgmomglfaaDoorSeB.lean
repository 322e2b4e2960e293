/-
  Layer 26: Ask.
-/
import Derived.Test.YtgbpofgmomglfaaDoorSeA
import Derived.Test.YtgbpofgmomglfaaDoorHeldU
namespace Go.Proofs.YtgbpofgmomglfaaDoor.Se
open Go.RowKit
set_option maxRecDepth 100000
set_option linter.unusedSimpArgs false
set_option linter.unusedVariables false
/-- What Ask leaves. -/
def AskT (w : World) (sb : Nat) (tq : Int) (s' : Ses) (e : Ending) (w' : World) : Prop := ∃ x : Nat, e = .returned (.tuple #[.slice (some ⟨x, 0, none⟩) 1 1, .int .i64 0]) ∧ w'.heap[x]? = some (.cells #[.int .i64 tq, .string s'.fr] 40 (0, 0)) ∧ w.heap.size ≤ x ∧ SesAt w' sb s' ∧ Gn.Sep sb w.heap.size w w'
theorem req_build (cl nu : Int) (t : ByteArray) (w : World) : (Instr.build 53 #[(0, .int .i64 1), (8, .int .i64 cl), (9, .int .i64 nu), (11, .string t)]).run Tryd.prog w = .ok (.agg #[.int .i64 1, .int .i64 0, .int .i64 0, .slice none 0 0, .int .i64 0, .int .i64 0, .int .i64 0, .int .i64 0, .int .i64 cl, .int .i64 nu, .int .i64 0, .string t, .bool false, .int .i64 0, .string ⟨#[]⟩, .slice none 0 0]) w := by kernel_rfl
theorem out_build (tq : Int) (t : ByteArray) (w : World) : (Instr.build 40 #[(0, .int .i64 tq), (1, .string t)]).run Tryd.prog w = .ok (.agg #[.int .i64 tq, .string t]) w := by kernel_rfl
set_option maxHeartbeats 16000000 in
theorem ask_any {w : World} {sb : Nat} {cl mo nu vi ti : Int} (h : SesAt w sb ⟨cl, mo, nu, vi, ⟨#[]⟩, ti⟩) (t fq : ByteArray) (h1 : 1 ≤ mo) (h2 : mo ≤ 3) (h3 : 0 ≤ nu) (h4 : nu ≤ 1000) (h5 : t.size ≤ 8192) (h6 : 0 ≤ vi) (h7 : vi ≤ 9007199254740992)
    (hput : ∀ W, Gn.Sep sb w.heap.size w W → Calls Tryd.prog 14 #[.agg #[.int .i64 1, .int .i64 0, .int .i64 0, .slice none 0 0, .int .i64 0, .int .i64 0, .int .i64 0, .int .i64 0, .int .i64 cl, .int .i64 (nu + 1), .int .i64 0, .string t, .bool false, .int .i64 0, .string ⟨#[]⟩, .slice none 0 0], .int .i64 (2 * mo + 1)] W fun e w' => e = .returned (.string fq) ∧ Below W.heap.size W w') :
    Calls Tryd.prog 7 #[.pointer (some ⟨sb, 0, none⟩), .string t] w (AskT w sb (vi.tmod (2 * mo + 1)) ⟨cl, mo, nu + 1, vi, fq, 0⟩) := by
  have HAW := Lib.hid (awaits_any h)
  have he : ((⟨#[]⟩ : ByteArray).toList.isEmpty) = true := by rw [ByteArray.toList_eq]; rfl
  simp only [he, Bool.not_true] at HAW
  obtain ⟨tq, hto⟩ : ∃ x, vi.tmod (2 * mo + 1) = x := ⟨_, rfl⟩
  rw [hto]
  have hnil := isnt_nil w ⟨sb, 0, none⟩
  have hts : (t.size : Int) ≤ 8192 := by omega
  have s0 := cell_of_row _ _ 0 _ _ (0, 0) h
  have s1 := cell_of_row _ _ 1 _ _ (0, 0) h
  have s2 := cell_of_row _ _ 2 _ _ (0, 0) h
  have s3 := cell_of_row _ _ 3 _ _ (0, 0) h
  have s4 := cell_of_row _ _ 4 _ _ (0, 0) h
  have s5 := cell_of_row _ _ 5 _ _ (0, 0) h
  have z0 := Gn.frozen_row h 0
  have z1 := Gn.frozen_row h 1
  have z2 := Gn.frozen_row h 2
  have z3 := Gn.frozen_row h 3
  have z4 := Gn.frozen_row h 4
  have z5 := Gn.frozen_row h 5
  obtain ⟨V, hV⟩ : ∃ x, x = (w.setCell ⟨sb, 2, none⟩ (.int .i64 (nu + 1))).setCell ⟨sb, 5, none⟩ (.int .i64 0) := ⟨_, rfl⟩
  have hv : SesAt V sb ⟨cl, mo, nu + 1, vi, ⟨#[]⟩, 0⟩ := by rw [hV]; exact Gn.heap_set (Gn.heap_set h 2 _) 5 _
  have hs : Gn.Sep sb w.heap.size w V := by rw [hV]; exact Gn.Sep.setCell (Gn.Sep.setCell (Gn.Sep.refl _ _ _) (p := ⟨sb, 2, none⟩) (.inl rfl) _) (p := ⟨sb, 5, none⟩) (.inl rfl) _
  have HS9 := Lib.hid (fun (w' : World) {fq' : ByteArray} {tk : Int} (h : SesAt w' sb ⟨cl, mo, nu + 1, vi, fq', tk⟩) => show (fun w' : World => w'.cell? ⟨sb, 0, none⟩ = some (.int .i64 cl) ∧ w'.cell? ⟨sb, 2, none⟩ = some (.int .i64 (nu + 1))) w' from ⟨cell_of_row _ _ 0 _ _ (0, 0) h, cell_of_row _ _ 2 _ _ (0, 0) h⟩)
  have HVD := Lib.hid (show SesAt V.drew sb ⟨cl, mo, nu + 1, vi, ⟨#[]⟩, 0⟩ from hv)
  have HSP := Lib.hid (show Gn.Sep sb w.heap.size w V.drew from hs.trans (Gn.Sep.of_below (Gn.below_drew (Below.refl _ _))))
  have HRP := Lib.hid (replicas_any HVD.out (by show 0 ≤ mo; omega) (by show mo ≤ 100; omega))
  have HV := Lib.hid hV
  have hbd := req_build cl (nu + 1) t
  have hob := out_build tq fq
  simp only at HRP
  have hr3 : 2 * mo + 1 = 3 ∨ 2 * mo + 1 = 5 ∨ 2 * mo + 1 = 7 := by omega
  obtain ⟨r, hr⟩ : ∃ r, r = 2 * mo + 1 := ⟨_, rfl⟩
  have hr0 : ¬ r = 0 := by omega
  have hrr : 1 ≤ r ∧ r ≤ 7 := by omega
  obtain ⟨hr1, hr7⟩ := hrr
  rw [← hr] at hput HRP hto
  have HR := Lib.hid hr
  clear h hv hs hV he hr hr3
  go_enter Tryd.func7, Tryd.ntmps7
  go_wp2_with fail
  refine HAW.out.mono ?_
  rintro e wq ⟨rfl, rfl⟩
  go_upto_region 9 with fail
  rw [← HV.out]
  clear s0 s1 s2 s3 s4 s5 z0 z1 z2 z3 z4 z5 HAW hnil
  refine wp_region_noPanic ?_
  refine wp_region_held_drew (S := (fun w' : World => w'.cell? ⟨sb, 0, none⟩ = some (.int .i64 cl) ∧ w'.cell? ⟨sb, 2, none⟩ = some (.int .i64 (nu + 1)))) (by kernel_rfl) ?_ (fun hHeld => ?_)
  · exact HS9.out _ HVD.out
  conv in Array.replicate _ false => change #[false, false, false, false, false, false, false, false, false, false, false, false, false, false, false, false, false]
  refine wpAnyH_take (i := 0) (v := ?_) rfl (by kernel_rfl) (by kernel_rfl) (by kernel_rfl) (fun _ _ _ h => h) (Or.inl ⟨by rfl, ?_⟩) (by assumption) ?_
  rotate_left
  · intro w hSw
    try dsimp only at hSw
    go_simp
    try with_reducible rfl
  try simp only [Act.put, List.getElem_toArray, List.getElem_cons_zero, List.getElem_cons_succ, List.setIfInBounds_toArray, List.set_cons_zero, List.set_cons_succ]
  refine wpAnyH_take (i := 1) (v := ?_) rfl (by kernel_rfl) (by kernel_rfl) (by kernel_rfl) (fun _ _ _ h => h) (Or.inl ⟨by rfl, ?_⟩) (by assumption) ?_
  rotate_left
  · intro w hSw
    try dsimp only at hSw
    go_simp
    try with_reducible rfl
  try simp only [Act.put, List.getElem_toArray, List.getElem_cons_zero, List.getElem_cons_succ, List.setIfInBounds_toArray, List.set_cons_zero, List.set_cons_succ]
  refine wpAnyH_take (i := 2) (v := ?_) rfl (by kernel_rfl) (by kernel_rfl) (by kernel_rfl) (fun _ _ _ h => h) (Or.inl ⟨by rfl, ?_⟩) (by assumption) ?_
  rotate_left
  · intro w hSw
    try dsimp only at hSw
    go_simp
    try with_reducible rfl
  try simp only [Act.put, List.getElem_toArray, List.getElem_cons_zero, List.getElem_cons_succ, List.setIfInBounds_toArray, List.set_cons_zero, List.set_cons_succ]
  refine wpAnyH_take (i := 3) (v := ?_) rfl (by kernel_rfl) (by kernel_rfl) (by kernel_rfl) (fun _ _ _ h => h) (Or.inl ⟨by rfl, ?_⟩) (by assumption) ?_
  rotate_left
  · intro w hSw
    try dsimp only at hSw
    go_simp
    try with_reducible rfl
  try simp only [Act.put, List.getElem_toArray, List.getElem_cons_zero, List.getElem_cons_succ, List.setIfInBounds_toArray, List.set_cons_zero, List.set_cons_succ]
  refine wpAnyH_take (i := 4) (v := ?_) rfl (by kernel_rfl) (by kernel_rfl) (by kernel_rfl) (fun _ _ _ h => h) (Or.inl ⟨by rfl, ?_⟩) (by assumption) ?_
  rotate_left
  · intro w hSw
    try dsimp only at hSw
    go_simp
    try with_reducible rfl
  try simp only [Act.put, List.getElem_toArray, List.getElem_cons_zero, List.getElem_cons_succ, List.setIfInBounds_toArray, List.set_cons_zero, List.set_cons_succ]
  refine wpAnyH_take (i := 5) (v := ?_) rfl (by kernel_rfl) (by kernel_rfl) (by kernel_rfl) (fun _ _ _ h => h) (Or.inl ⟨by rfl, ?_⟩) (by assumption) ?_
  rotate_left
  · intro w hSw
    try dsimp only at hSw
    go_simp
    try with_reducible rfl
  try simp only [Act.put, List.getElem_toArray, List.getElem_cons_zero, List.getElem_cons_succ, List.setIfInBounds_toArray, List.set_cons_zero, List.set_cons_succ]
  refine wpAnyH_take (i := 6) (v := ?_) rfl (by kernel_rfl) (by kernel_rfl) (by kernel_rfl) (fun _ _ _ h => h) (Or.inl ⟨by rfl, ?_⟩) (by assumption) ?_
  rotate_left
  · intro w hSw
    try dsimp only at hSw
    go_simp
    try with_reducible rfl
  try simp only [Act.put, List.getElem_toArray, List.getElem_cons_zero, List.getElem_cons_succ, List.setIfInBounds_toArray, List.set_cons_zero, List.set_cons_succ]
  refine wpAnyH_take (i := 7) (v := ?_) rfl (by kernel_rfl) (by kernel_rfl) (by kernel_rfl) (fun _ _ _ h => h) (Or.inl ⟨by rfl, ?_⟩) (by assumption) ?_
  rotate_left
  · intro w hSw
    try dsimp only at hSw
    go_simp
    try with_reducible rfl
  try simp only [Act.put, List.getElem_toArray, List.getElem_cons_zero, List.getElem_cons_succ, List.setIfInBounds_toArray, List.set_cons_zero, List.set_cons_succ]
  refine wpAnyH_take (i := 8) (v := ?_) rfl (by kernel_rfl) (by kernel_rfl) (by kernel_rfl) (fun _ _ _ h => h) (Or.inl ⟨by rfl, ?_⟩) (by assumption) ?_
  rotate_left
  · intro w hSw
    try dsimp only at hSw
    go_simp
    try with_reducible rfl
  try simp only [Act.put, List.getElem_toArray, List.getElem_cons_zero, List.getElem_cons_succ, List.setIfInBounds_toArray, List.set_cons_zero, List.set_cons_succ]
  refine wpAnyH_take (i := 9) (v := ?_) rfl (by kernel_rfl) (by kernel_rfl) (by kernel_rfl) (fun _ _ _ h => h) (Or.inl ⟨by rfl, ?_⟩) (by assumption) ?_
  rotate_left
  · intro w hSw
    try dsimp only at hSw
    go_simp
    try with_reducible rfl
  try simp only [Act.put, List.getElem_toArray, List.getElem_cons_zero, List.getElem_cons_succ, List.setIfInBounds_toArray, List.set_cons_zero, List.set_cons_succ]
  refine wpAnyH_take (i := 10) (v := ?_) rfl (by kernel_rfl) (by kernel_rfl) (by kernel_rfl) (fun _ _ _ h => h) (Or.inl ⟨by rfl, ?_⟩) (by assumption) ?_
  rotate_left
  · intro w hSw
    try dsimp only at hSw
    go_simp
    try with_reducible rfl
  try simp only [Act.put, List.getElem_toArray, List.getElem_cons_zero, List.getElem_cons_succ, List.setIfInBounds_toArray, List.set_cons_zero, List.set_cons_succ]
  refine wpAnyH_take (i := 11) (v := ?_) rfl (by kernel_rfl) (by kernel_rfl) (by kernel_rfl) (fun _ _ _ h => h) (Or.inl ⟨by rfl, ?_⟩) (by assumption) ?_
  rotate_left
  · intro w hSw
    try dsimp only at hSw
    go_simp
    try with_reducible rfl
  try simp only [Act.put, List.getElem_toArray, List.getElem_cons_zero, List.getElem_cons_succ, List.setIfInBounds_toArray, List.set_cons_zero, List.set_cons_succ]
  refine wpAnyH_ready (rs := [12]) (by kernel_rfl) (by simp) ?_
  refine AllReadyH.cons rfl (fun K hK => ?_) AllReadyH.nil
  go_simp
  go_at_call 16
  refine HRP.out.mono ?_
  rintro e wq ⟨rfl, rfl⟩
  refine hK.out _ _ (HS9.out _ HVD.out) (fun hHeld => ?_)
  clear hK K
  try simp only [Act.put, List.getElem_toArray, List.getElem_cons_zero, List.getElem_cons_succ, List.setIfInBounds_toArray, List.set_cons_zero, List.set_cons_succ]
  refine wpAnyH_ready (rs := [13]) (by kernel_rfl) (by simp) ?_
  refine AllReadyH.cons rfl (fun K hK => ?_) AllReadyH.nil
  go_simp
  go_at_call 14
  refine (hput _ HSP.out).mono ?_
  rintro e w5 ⟨rfl, b5⟩
  have HV5 := Lib.hid (HVD.out.under b5)
  have HS5 := Lib.hid (HSP.out.trans (Gn.Sep.of_below (b5.mono HSP.out.size)))
  clear b5
  refine hK.out _ _ (HS9.out _ HV5.out) (fun hHeld => ?_)
  clear hK K
  try simp only [Act.put, List.getElem_toArray, List.getElem_cons_zero, List.getElem_cons_succ, List.setIfInBounds_toArray, List.set_cons_zero, List.set_cons_succ]
  refine wpAnyH_take (i := 14) (v := ?_) rfl (by kernel_rfl) (by kernel_rfl) (by kernel_rfl) (fun _ _ _ h => h) (Or.inl ⟨by rfl, ?_⟩) (by assumption) ?_
  rotate_left
  · intro w hSw
    try dsimp only at hSw
    go_simp
    try with_reducible rfl
  try simp only [Act.put, List.getElem_toArray, List.getElem_cons_zero, List.getElem_cons_succ, List.setIfInBounds_toArray, List.set_cons_zero, List.set_cons_succ]
  refine wpAnyH_take (i := 15) (v := ?_) rfl (by kernel_rfl) (by kernel_rfl) (by kernel_rfl) (fun _ _ _ h => h) (Or.inl ⟨by rfl, ?_⟩) (by assumption) ?_
  rotate_left
  · intro w hSw
    try dsimp only at hSw
    go_simp
    try with_reducible rfl
  try simp only [Act.put, List.getElem_toArray, List.getElem_cons_zero, List.getElem_cons_succ, List.setIfInBounds_toArray, List.set_cons_zero, List.set_cons_succ]
  refine wpAnyH_ready (rs := [16]) (by kernel_rfl) (by simp) ?_
  refine AllReadyH.cons rfl (fun K hK => ?_) AllReadyH.nil
  have c4 := cell_of_row _ _ 4 _ _ (0, 0) HV5.out
  have z4 := Gn.frozen_row HV5.out 4
  go_simp
  clear c4 z4
  have HV6 := Lib.hid (show SesAt (w5.setCell ⟨sb, 4, none⟩ (.string fq)) sb ⟨cl, mo, nu + 1, vi, fq, 0⟩ from Gn.heap_set HV5.out 4 (.string fq))
  have HS6 := Lib.hid (Gn.Sep.setCell HS5.out (p := ⟨sb, 4, none⟩) (.inl rfl) (.string fq))
  refine hK.out _ _ (HS9.out _ (show SesAt _ sb ⟨cl, mo, nu + 1, vi, fq, 0⟩ from HV6.out)) (fun hHeld => ?_)
  clear hK K
  try simp only [Act.put, List.getElem_toArray, List.getElem_cons_zero, List.getElem_cons_succ, List.setIfInBounds_toArray, List.set_cons_zero, List.set_cons_succ]
  refine wpAnyH_done (by kernel_rfl) ?_ _
  refine NoPanic.normal ?_
  obtain ⟨w6, hw6⟩ : ∃ x, x = w5.setCell ⟨sb, 4, none⟩ (.string fq) := ⟨_, rfl⟩
  rw [← hw6] at HV6 HS6 ⊢
  clear hw6 HV5 HS5
  have HV7 := Lib.hid (show SesAt w6.drew sb ⟨cl, mo, nu + 1, vi, fq, 0⟩ from HV6.out)
  have HS7 := Lib.hid (HS6.out.trans (Gn.Sep.of_below (Gn.below_drew (Below.refl _ _))))
  have HRP2 := Lib.hid (replicas_any HV7.out (by show 0 ≤ mo; omega) (by show mo ≤ 100; omega))
  simp only at HRP2
  rw [← HR.out] at HRP2
  have HS10 := Lib.hid (fun (w' : World) (h : SesAt w' sb ⟨cl, mo, nu + 1, vi, fq, 0⟩) => show (fun w' : World => w'.cell? ⟨sb, 3, none⟩ = some (.int .i64 vi) ∧ w'.cell? ⟨sb, 4, none⟩ = some (.string fq)) w' from ⟨cell_of_row _ _ 3 _ _ (0, 0) h, cell_of_row _ _ 4 _ _ (0, 0) h⟩)
  go_upto_region 10 with fail
  refine wp_region_noPanic ?_
  refine wp_region_held_drew (S := (fun w' : World => w'.cell? ⟨sb, 3, none⟩ = some (.int .i64 vi) ∧ w'.cell? ⟨sb, 4, none⟩ = some (.string fq))) (by kernel_rfl) ?_ (fun hHeld => ?_)
  · exact HS10.out _ HV7.out
  conv in Array.replicate _ false => change #[false, false, false, false, false, false, false, false, false, false, false, false, false, false, false]
  refine wpAnyH_take (i := 0) (v := ?_) rfl (by kernel_rfl) (by kernel_rfl) (by kernel_rfl) (fun _ _ _ h => h) (Or.inl ⟨by rfl, ?_⟩) (by assumption) ?_
  rotate_left
  · intro w hSw
    try dsimp only at hSw
    go_simp
    try with_reducible rfl
  try simp only [Act.put, List.getElem_toArray, List.getElem_cons_zero, List.getElem_cons_succ, List.setIfInBounds_toArray, List.set_cons_zero, List.set_cons_succ]
  refine wpAnyH_take (i := 1) (v := ?_) rfl (by kernel_rfl) (by kernel_rfl) (by kernel_rfl) (fun _ _ _ h => h) (Or.inl ⟨by rfl, ?_⟩) (by assumption) ?_
  rotate_left
  · intro w hSw
    try dsimp only at hSw
    go_simp
    try with_reducible rfl
  try simp only [Act.put, List.getElem_toArray, List.getElem_cons_zero, List.getElem_cons_succ, List.setIfInBounds_toArray, List.set_cons_zero, List.set_cons_succ]
  refine wpAnyH_take (i := 2) (v := ?_) rfl (by kernel_rfl) (by kernel_rfl) (by kernel_rfl) (fun _ _ _ h => h) (Or.inl ⟨by rfl, ?_⟩) (by assumption) ?_
  rotate_left
  · intro w hSw
    try dsimp only at hSw
    go_simp
    try with_reducible rfl
  try simp only [Act.put, List.getElem_toArray, List.getElem_cons_zero, List.getElem_cons_succ, List.setIfInBounds_toArray, List.set_cons_zero, List.set_cons_succ]
  refine wpAnyH_take (i := 3) (v := ?_) rfl (by kernel_rfl) (by kernel_rfl) (by kernel_rfl) (fun _ _ _ h => h) (Or.inl ⟨by rfl, ?_⟩) (by assumption) ?_
  rotate_left
  · intro w hSw
    try dsimp only at hSw
    go_simp
    try with_reducible rfl
  try simp only [Act.put, List.getElem_toArray, List.getElem_cons_zero, List.getElem_cons_succ, List.setIfInBounds_toArray, List.set_cons_zero, List.set_cons_succ]
  refine wpAnyH_take (i := 4) (v := ?_) rfl (by kernel_rfl) (by kernel_rfl) (by kernel_rfl) (fun _ _ _ h => h) (Or.inl ⟨by rfl, ?_⟩) (by assumption) ?_
  rotate_left
  · intro w hSw
    try dsimp only at hSw
    go_simp
    try with_reducible rfl
  try simp only [Act.put, List.getElem_toArray, List.getElem_cons_zero, List.getElem_cons_succ, List.setIfInBounds_toArray, List.set_cons_zero, List.set_cons_succ]
  refine wpAnyH_take (i := 7) (v := ?_) rfl (by kernel_rfl) (by kernel_rfl) (by kernel_rfl) (fun _ _ _ h => h) (Or.inl ⟨by rfl, ?_⟩) (by assumption) ?_
  rotate_left
  · intro w hSw
    try dsimp only at hSw
    go_simp
    try with_reducible rfl
  try simp only [Act.put, List.getElem_toArray, List.getElem_cons_zero, List.getElem_cons_succ, List.setIfInBounds_toArray, List.set_cons_zero, List.set_cons_succ]
  refine wpAnyH_take (i := 8) (v := ?_) rfl (by kernel_rfl) (by kernel_rfl) (by kernel_rfl) (fun _ _ _ h => h) (Or.inl ⟨by rfl, ?_⟩) (by assumption) ?_
  rotate_left
  · intro w hSw
    try dsimp only at hSw
    go_simp
    try with_reducible rfl
  try simp only [Act.put, List.getElem_toArray, List.getElem_cons_zero, List.getElem_cons_succ, List.setIfInBounds_toArray, List.set_cons_zero, List.set_cons_succ]
  refine wpAnyH_take (i := 9) (v := ?_) rfl (by kernel_rfl) (by kernel_rfl) (by kernel_rfl) (fun _ _ _ h => h) (Or.inl ⟨by rfl, ?_⟩) (by assumption) ?_
  rotate_left
  · intro w hSw
    try dsimp only at hSw
    go_simp
    try with_reducible rfl
  try simp only [Act.put, List.getElem_toArray, List.getElem_cons_zero, List.getElem_cons_succ, List.setIfInBounds_toArray, List.set_cons_zero, List.set_cons_succ]
  refine wpAnyH_take (i := 10) (v := ?_) rfl (by kernel_rfl) (by kernel_rfl) (by kernel_rfl) (fun _ _ _ h => h) (Or.inl ⟨by rfl, ?_⟩) (by assumption) ?_
  rotate_left
  · intro w hSw
    try dsimp only at hSw
    go_simp
    try with_reducible rfl
  try simp only [Act.put, List.getElem_toArray, List.getElem_cons_zero, List.getElem_cons_succ, List.setIfInBounds_toArray, List.set_cons_zero, List.set_cons_succ]
  refine wpAnyH_ready (rs := [5]) (by kernel_rfl) (by simp) ?_
  refine AllReadyH.cons rfl (fun K hK => ?_) AllReadyH.nil
  go_simp
  go_at_call 16
  refine HRP2.out.mono ?_
  rintro e wq ⟨rfl, rfl⟩
  refine hK.out _ _ (HS10.out _ HV7.out) (fun hHeld => ?_)
  clear hK K
  try simp only [Act.put, List.getElem_toArray, List.getElem_cons_zero, List.getElem_cons_succ, List.setIfInBounds_toArray, List.set_cons_zero, List.set_cons_succ]
  refine wpAnyH_take (i := 6) (v := ?_) rfl (by kernel_rfl) (by kernel_rfl) (by kernel_rfl) (fun _ _ _ h => h) (Or.inl ⟨by rfl, ?_⟩) (by assumption) ?_
  rotate_left
  · intro w hSw
    try dsimp only at hSw
    go_simp
    try with_reducible rfl
  try simp only [Act.put, List.getElem_toArray, List.getElem_cons_zero, List.getElem_cons_succ, List.setIfInBounds_toArray, List.set_cons_zero, List.set_cons_succ]
  refine wpAnyH_take (i := 11) (v := ?_) rfl (by kernel_rfl) (by kernel_rfl) (by kernel_rfl) (fun _ _ _ h => h) (Or.inl ⟨by rfl, ?_⟩) (by assumption) ?_
  rotate_left
  · intro w hSw
    try dsimp only at hSw
    go_simp
    try with_reducible rfl
  try simp only [Act.put, List.getElem_toArray, List.getElem_cons_zero, List.getElem_cons_succ, List.setIfInBounds_toArray, List.set_cons_zero, List.set_cons_succ]
  refine wpAnyH_ready (rs := [12]) (by kernel_rfl) (by simp) ?_
  refine AllReadyH.cons rfl (fun K hK => ?_) AllReadyH.nil
  go_simp
  have hab := (Below.refl w6.drew.heap.size w6.drew).alloc (Nat.le_refl _) (.cells #[.int .i64 tq, .string fq] 40)
  have HX8 := Lib.hid (heap_alloc_new w6.drew (.cells #[.int .i64 tq, .string fq] 40))
  have HV8 := Lib.hid (HV7.out.under hab)
  have HS8 := Lib.hid (HS7.out.trans (Gn.Sep.of_below (hab.mono HS7.out.size)))
  clear hab
  refine hK.out _ _ (HS10.out _ HV8.out) (fun hHeld => ?_)
  clear hK K
  try simp only [Act.put, List.getElem_toArray, List.getElem_cons_zero, List.getElem_cons_succ, List.setIfInBounds_toArray, List.set_cons_zero, List.set_cons_succ]
  refine wpAnyH_ready (rs := [13]) (by kernel_rfl) (by simp) ?_
  refine AllReadyH.cons rfl (fun K hK => ?_) AllReadyH.nil
  go_simp
  refine hK.out _ _ (HS10.out _ HV8.out) (fun hHeld => ?_)
  clear hK K
  try simp only [Act.put, List.getElem_toArray, List.getElem_cons_zero, List.getElem_cons_succ, List.setIfInBounds_toArray, List.set_cons_zero, List.set_cons_succ]
  refine wpAnyH_ready (rs := [14]) (by kernel_rfl) (by simp) ?_
  refine AllReadyH.cons rfl (fun K hK => ?_) AllReadyH.nil
  go_simp
  refine hK.out _ _ (HS10.out _ HV8.out) (fun hHeld => ?_)
  clear hK K
  try simp only [Act.put, List.getElem_toArray, List.getElem_cons_zero, List.getElem_cons_succ, List.setIfInBounds_toArray, List.set_cons_zero, List.set_cons_succ]
  refine wpAnyH_done (by kernel_rfl) ?_ _
  refine NoPanic.normal ?_
  go_wp2_with fail
  go_ret2
  exact ⟨w6.drew.heap.size, rfl, HX8.out, HS7.out.size, HV8.out, HS8.out⟩
end Go.Proofs.YtgbpofgmomglfaaDoor.Se
