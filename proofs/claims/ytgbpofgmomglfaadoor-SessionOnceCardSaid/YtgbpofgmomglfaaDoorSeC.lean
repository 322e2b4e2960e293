/-
  Layer 26: Receive.
-/
import Derived.Test.YtgbpofgmomglfaaDoorSeB
import Derived.Test.YtgbpofgmomglfaaDoorMsGe
namespace Go.Proofs.YtgbpofgmomglfaaDoor.Se
open Go.RowKit
open Ms (Msg goodM putM put_good bodyM)
set_option maxRecDepth 100000
set_option linter.unusedSimpArgs false
set_option linter.unusedVariables false
/-- A good message's frame isn't empty. -/
theorem put_some {{m : Msg}} {{r : Int}} (h : goodM m r = true) : (putM m r).toList.isEmpty = false := by
  rw [put_good h, ByteArray.toList_eq, List.isEmpty_eq_false_iff]
  intro he
  have h1 : (Crc.wr (bodyM m)).length = 0 := by
    have h2 := congrArg List.length he
    simpa using h2
  have h3 := Crc.wr_len (bodyM m) (Ms.body_len (Ms.good_of h))
  omega
theorem recv_idle {w : World} {sb : Nat} {cl mo nu vi ti : Int} (h : SesAt w sb ⟨cl, mo, nu, vi, ⟨#[]⟩, ti⟩) (f : ByteArray) :
    Calls Tryd.prog 8 #[.pointer (some ⟨sb, 0, none⟩), .string f] w (fun e w' => e = .returned (.tuple #[.string ⟨#[]⟩, .bool false]) ∧ w = w') := by
  have HAW := Lib.hid (awaits_any h)
  have he : ((⟨#[]⟩ : ByteArray).toList.isEmpty) = true := by rw [ByteArray.toList_eq]; rfl
  simp only [he, Bool.not_true] at HAW
  have hnil := isnt_nil w ⟨sb, 0, none⟩
  have hnt := not_run false w
  clear h he
  go_enter Tryd.func8, Tryd.ntmps8
  go_wp2_with fail
  refine HAW.out.mono ?_
  rintro e wq ⟨rfl, rfl⟩
  go_wp2_with fail
  go_ret2
  exact ⟨rfl, rfl⟩
/-- What Receive leaves of a reply. -/
def RecvT (w : World) (sb : Nat) (t : ByteArray) (ok : Bool) (s' : Ses) (e : Ending) (w' : World) : Prop := e = .returned (.tuple #[.string t, .bool ok]) ∧ SesAt w' sb s' ∧ Gn.Sep sb w.heap.size w w'
set_option maxHeartbeats 16000000 in
theorem recv_miss {w : World} {sb : Nat} {cl mo nu vi ti : Int} {fr : ByteArray} (h : SesAt w sb ⟨cl, mo, nu, vi, fr, ti⟩) (m : Msg) (f : ByteArray) (hfr : fr.toList.isEmpty = false) (h1 : 1 ≤ mo) (h2 : mo ≤ 3) (hk : m.kind = 4) (hmiss : m.client ≠ cl ∨ m.number ≠ nu)
    (hget : Calls Tryd.prog 17 #[.string f, .int .i64 (2 * mo + 1)] w (Ms.Told m w)) :
    Calls Tryd.prog 8 #[.pointer (some ⟨sb, 0, none⟩), .string f] w (RecvT w sb ⟨#[]⟩ false ⟨cl, mo, nu, vi, fr, ti⟩) := by
  have hms := hmiss
  clear hmiss
  obtain ⟨kd, mf, mb, kn, mv, ml, mp, mm, mc, mn, mx, mt, mu, ms, me, es⟩ := m
  simp only at hk hms
  subst hk
  have HAW := Lib.hid (awaits_any h)
  simp only [hfr, Bool.not_false] at HAW
  have HRP := Lib.hid (replicas_any h (by show 0 ≤ mo; omega) (by show mo ≤ 100; omega))
  simp only at HRP
  have hnil := isnt_nil w ⟨sb, 0, none⟩
  have hnt := not_run true w
  have HS := Lib.hid h
  have HG := Lib.hid hget
  unfold Ms.Told Ms.cellsM at HG
  simp only at HG
  clear h hget
  go_enter Tryd.func8, Tryd.ntmps8
  go_wp2_with fail
  refine HAW.out.mono ?_
  rintro e wq ⟨rfl, rfl⟩
  go_wp2_with fail
  refine HRP.out.mono ?_
  rintro e wq ⟨rfl, rfl⟩
  go_wp2_with fail
  refine HG.out.mono ?_
  rintro e w3 ⟨A, cap, B, cap2, rfl, -, -, b3⟩
  obtain ⟨V, hV⟩ : ∃ x, x = w3.alloc (.cells #[.int .i64 4, .int .i64 mf, .int .i64 mb, .slice A kn.length cap, .int .i64 mv, .int .i64 ml, .int .i64 mp, .int .i64 mm, .int .i64 mc, .int .i64 mn, .int .i64 mx, .string mt, .bool mu, .int .i64 ms, .string me, .slice B es.length cap2] 53) := ⟨_, rfl⟩
  obtain ⟨bx, hbx⟩ : ∃ x, x = w3.heap.size := ⟨_, rfl⟩
  have hx : V.heap[bx]? = some (.cells #[.int .i64 4, .int .i64 mf, .int .i64 mb, .slice A kn.length cap, .int .i64 mv, .int .i64 ml, .int .i64 mp, .int .i64 mm, .int .i64 mc, .int .i64 mn, .int .i64 mx, .string mt, .bool mu, .int .i64 ms, .string me, .slice B es.length cap2] 53 (0, 0)) := by rw [hV, hbx]; exact heap_alloc_new _ _
  have hb : Below w.heap.size w V := by rw [hV]; exact b3.alloc b3.size _
  have hs := HS.out.under hb
  have hne : ¬ sb = bx := by have := Gn.heap_lt HS.out; have := b3.size; omega
  have x0 := cell_of_row _ _ 0 _ _ (0, 0) hx
  have x8 := cell_of_row _ _ 8 _ _ (0, 0) hx
  have x9 := cell_of_row _ _ 9 _ _ (0, 0) hx
  have s0 := cell_of_row _ _ 0 _ _ (0, 0) hs
  have s2 := cell_of_row _ _ 2 _ _ (0, 0) hs
  have HX := Lib.hid hx
  have HB := Lib.hid hb
  have HSV := Lib.hid hs
  have HV := Lib.hid hV
  have HBX := Lib.hid hbx
  clear b3 hV hbx hx hb hs hnil hnt HAW HRP
  go_upto_region 4 with fail
  rw [← HV.out, ← HBX.out]
  by_cases hc : mc = cl
  · have q1 : (mc != cl) = false := by simpa using hc
    have q2 : (mn != nu) = true := by
      rcases hms with h | h
      · exact absurd hc h
      · simpa using h
    clear hms hc
    go_quiet (fail)
    obtain ⟨w5, hw5⟩ : ∃ x, x = V.drewN nq := ⟨_, rfl⟩
    rw [← hw5]
    have HB5 := Lib.hid (show Below w.heap.size w w5 by rw [hw5]; exact Gn.below_drewN HB.out _)
    have HS5 := Lib.hid (HS.out.under HB5.out)
    clear hw5 x0 x8 x9 s0 s2
    go_wp2_with fail
    go_ret2
    exact ⟨rfl, HS5.out, Gn.Sep.of_below HB5.out⟩
  · have q1 : (mc != cl) = true := by simpa using hc
    clear hms hc
    go_quiet (fail)
    obtain ⟨w5, hw5⟩ : ∃ x, x = V.drewN nq := ⟨_, rfl⟩
    rw [← hw5]
    have HB5 := Lib.hid (show Below w.heap.size w w5 by rw [hw5]; exact Gn.below_drewN HB.out _)
    have HS5 := Lib.hid (HS.out.under HB5.out)
    clear hw5 x0 x8 x9 s0 s2
    go_wp2_with fail
    go_ret2
    exact ⟨rfl, HS5.out, Gn.Sep.of_below HB5.out⟩
set_option maxHeartbeats 16000000 in
theorem recv_hit {w : World} {sb : Nat} {cl mo nu vi ti : Int} {fr : ByteArray} (h : SesAt w sb ⟨cl, mo, nu, vi, fr, ti⟩) (m : Msg) (f : ByteArray) (hfr : fr.toList.isEmpty = false) (h1 : 1 ≤ mo) (h2 : mo ≤ 3) (hk : m.kind = 4) (hc : m.client = cl) (hn : m.number = nu)
    (hget : Calls Tryd.prog 17 #[.string f, .int .i64 (2 * mo + 1)] w (Ms.Told m w)) :
    Calls Tryd.prog 8 #[.pointer (some ⟨sb, 0, none⟩), .string f] w (RecvT w sb m.text true ⟨cl, mo, nu, max vi m.view, ⟨#[]⟩, ti⟩) := by
  obtain ⟨kd, mf, mb, kn, mv, ml, mp, mm, mc, mn, mx, mt, mu, ms, me, es⟩ := m
  simp only at hk hc hn ⊢
  subst hk
  subst hc
  subst hn
  have HAW := Lib.hid (awaits_any h)
  simp only [hfr, Bool.not_false] at HAW
  have HRP := Lib.hid (replicas_any h (by show 0 ≤ mo; omega) (by show mo ≤ 100; omega))
  simp only at HRP
  have hnil := isnt_nil w ⟨sb, 0, none⟩
  have hnt := not_run true w
  have HS := Lib.hid h
  have HG := Lib.hid hget
  unfold Ms.Told Ms.cellsM at HG
  simp only at HG
  clear h hget
  go_enter Tryd.func8, Tryd.ntmps8
  go_wp2_with fail
  refine HAW.out.mono ?_
  rintro e wq ⟨rfl, rfl⟩
  go_wp2_with fail
  refine HRP.out.mono ?_
  rintro e wq ⟨rfl, rfl⟩
  go_wp2_with fail
  refine HG.out.mono ?_
  rintro e w3 ⟨A, cap, B, cap2, rfl, -, -, b3⟩
  obtain ⟨V, hV⟩ : ∃ x, x = w3.alloc (.cells #[.int .i64 4, .int .i64 mf, .int .i64 mb, .slice A kn.length cap, .int .i64 mv, .int .i64 ml, .int .i64 mp, .int .i64 mm, .int .i64 mc, .int .i64 mn, .int .i64 mx, .string mt, .bool mu, .int .i64 ms, .string me, .slice B es.length cap2] 53) := ⟨_, rfl⟩
  obtain ⟨bx, hbx⟩ : ∃ x, x = w3.heap.size := ⟨_, rfl⟩
  have hx : V.heap[bx]? = some (.cells #[.int .i64 4, .int .i64 mf, .int .i64 mb, .slice A kn.length cap, .int .i64 mv, .int .i64 ml, .int .i64 mp, .int .i64 mm, .int .i64 mc, .int .i64 mn, .int .i64 mx, .string mt, .bool mu, .int .i64 ms, .string me, .slice B es.length cap2] 53 (0, 0)) := by rw [hV, hbx]; exact heap_alloc_new _ _
  have hb : Below w.heap.size w V := by rw [hV]; exact b3.alloc b3.size _
  have hs := HS.out.under hb
  have hne : ¬ sb = bx := by have := Gn.heap_lt HS.out; have := b3.size; omega
  have x0 := cell_of_row _ _ 0 _ _ (0, 0) hx
  have x8 := cell_of_row _ _ 8 _ _ (0, 0) hx
  have x9 := cell_of_row _ _ 9 _ _ (0, 0) hx
  have s0 := cell_of_row _ _ 0 _ _ (0, 0) hs
  have s2 := cell_of_row _ _ 2 _ _ (0, 0) hs
  have HX := Lib.hid hx
  have HB := Lib.hid hb
  have HSV := Lib.hid hs
  have HV := Lib.hid hV
  have HBX := Lib.hid hbx
  clear b3 hV hbx hx hb hs hnil hnt HAW HRP
  go_upto_region 4 with fail
  rw [← HV.out, ← HBX.out]
  have q1 : (mc != mc) = false := by simp
  have q2 : (mn != mn) = false := by simp
  go_quiet (fail)
  obtain ⟨w5, hw5⟩ : ∃ x, x = V.drewN nq := ⟨_, rfl⟩
  rw [← hw5]
  have HB5 := Lib.hid (show Below w.heap.size w w5 by rw [hw5]; exact Gn.below_drewN HB.out _)
  have HS5 := Lib.hid (HS.out.under HB5.out)
  have HX5 := Lib.hid (show w5.heap[bx]? = some (.cells #[.int .i64 4, .int .i64 mf, .int .i64 mb, .slice A kn.length cap, .int .i64 mv, .int .i64 ml, .int .i64 mp, .int .i64 mm, .int .i64 mc, .int .i64 mn, .int .i64 mx, .string mt, .bool mu, .int .i64 ms, .string me, .slice B es.length cap2] 53 (0, 0)) by rw [hw5]; exact HX.out)
  clear hw5 x0 x8 x9 s0 s2 q1 q2
  have s4 := cell_of_row _ _ 4 _ _ (0, 0) HS5.out
  have z4 := Gn.frozen_row HS5.out 4
  go_upto_region 7 with fail
  obtain ⟨w6, hw6⟩ : ∃ x, x = w5.setCell ⟨sb, 4, none⟩ (.string ⟨#[]⟩) := ⟨_, rfl⟩
  rw [← hw6]
  have HS6 := Lib.hid (show SesAt w6 sb ⟨mc, mo, mn, vi, ⟨#[]⟩, ti⟩ by rw [hw6]; exact Gn.heap_set HS5.out 4 _)
  have HX6 := Lib.hid (show w6.heap[bx]? = some (.cells #[.int .i64 4, .int .i64 mf, .int .i64 mb, .slice A kn.length cap, .int .i64 mv, .int .i64 ml, .int .i64 mp, .int .i64 mm, .int .i64 mc, .int .i64 mn, .int .i64 mx, .string mt, .bool mu, .int .i64 ms, .string me, .slice B es.length cap2] 53 (0, 0)) by rw [hw6]; exact (Gn.set_keep _ 4 _ hne).trans HX5.out)
  have HP6 := Lib.hid (show Gn.Sep sb w.heap.size w w6 by rw [hw6]; exact Gn.Sep.setCell (Gn.Sep.of_below HB5.out) (p := ⟨sb, 4, none⟩) (.inl rfl) _)
  have HFF := Lib.hid (fun (w' : World) (h : w'.heap[bx]? = some (.cells #[.int .i64 4, .int .i64 mf, .int .i64 mb, .slice A kn.length cap, .int .i64 mv, .int .i64 ml, .int .i64 mp, .int .i64 mm, .int .i64 mc, .int .i64 mn, .int .i64 mx, .string mt, .bool mu, .int .i64 ms, .string me, .slice B es.length cap2] 53 (0, 0))) => show (fun w' : World => w'.cell? ⟨bx, 4, none⟩ = some (.int .i64 mv)) w' from cell_of_row _ _ 4 _ _ (0, 0) h)
  have HGG := Lib.hid (fun (w' : World) (h : SesAt w' sb ⟨mc, mo, mn, vi, ⟨#[]⟩, ti⟩) => show (fun w' : World => w'.cell? ⟨sb, 3, none⟩ = some (.int .i64 vi)) w' from cell_of_row _ _ 3 _ _ (0, 0) h)
  have HSD := Lib.hid (show SesAt w6.drew sb ⟨mc, mo, mn, vi, ⟨#[]⟩, ti⟩ from HS6.out)
  have HXD := Lib.hid (show w6.drew.heap[bx]? = some (.cells #[.int .i64 4, .int .i64 mf, .int .i64 mb, .slice A kn.length cap, .int .i64 mv, .int .i64 ml, .int .i64 mp, .int .i64 mm, .int .i64 mc, .int .i64 mn, .int .i64 mx, .string mt, .bool mu, .int .i64 ms, .string me, .slice B es.length cap2] 53 (0, 0)) from HX6.out)
  clear hw6 s4 z4
  refine wp_region_noPanic ?_
  refine HeldU.wp_region_until (F := (fun w' : World => w'.cell? ⟨bx, 4, none⟩ = some (.int .i64 mv))) (G := (fun w' : World => w'.cell? ⟨sb, 3, none⟩ = some (.int .i64 vi))) (k := 10) (by kernel_rfl) (HFF.out _ HXD.out) ?_ (fun hHeld => ?_)
  · exact HGG.out _ HSD.out
  conv in Array.replicate _ false => change #[false, false, false, false, false, false, false, false, false, false, false]
  refine HeldU.wpAnyU_take (i := 0) (v := ?_) rfl (by kernel_rfl) (by kernel_rfl) (by kernel_rfl) (by kernel_rfl) (by rfl) (fun _ _ _ h => h) (Or.inl ⟨by rfl, ?_⟩) (by assumption) ?_
  rotate_left
  · intro w hSw
    try dsimp only at hSw
    go_simp
    try with_reducible rfl
  try simp only [Act.put, List.getElem_toArray, List.getElem_cons_zero, List.getElem_cons_succ, List.setIfInBounds_toArray, List.set_cons_zero, List.set_cons_succ]
  refine HeldU.wpAnyU_take (i := 1) (v := ?_) rfl (by kernel_rfl) (by kernel_rfl) (by kernel_rfl) (by kernel_rfl) (by rfl) (fun _ _ _ h => h) (Or.inl ⟨by rfl, ?_⟩) (by assumption) ?_
  rotate_left
  · intro w hSw
    try dsimp only at hSw
    go_simp
    try with_reducible rfl
  try simp only [Act.put, List.getElem_toArray, List.getElem_cons_zero, List.getElem_cons_succ, List.setIfInBounds_toArray, List.set_cons_zero, List.set_cons_succ]
  refine HeldU.wpAnyU_take (i := 2) (v := ?_) rfl (by kernel_rfl) (by kernel_rfl) (by kernel_rfl) (by kernel_rfl) (by rfl) (fun _ _ _ h => h) (Or.inl ⟨by rfl, ?_⟩) (by assumption) ?_
  rotate_left
  · intro w hSw
    try dsimp only at hSw
    go_simp
    try with_reducible rfl
  try simp only [Act.put, List.getElem_toArray, List.getElem_cons_zero, List.getElem_cons_succ, List.setIfInBounds_toArray, List.set_cons_zero, List.set_cons_succ]
  refine HeldU.wpAnyU_take (i := 3) (v := ?_) rfl (by kernel_rfl) (by kernel_rfl) (by kernel_rfl) (by kernel_rfl) (by rfl) (fun _ _ _ h => h) (Or.inl ⟨by rfl, ?_⟩) (by assumption) ?_
  rotate_left
  · intro w hSw
    try dsimp only at hSw
    go_simp
    try with_reducible rfl
  try simp only [Act.put, List.getElem_toArray, List.getElem_cons_zero, List.getElem_cons_succ, List.setIfInBounds_toArray, List.set_cons_zero, List.set_cons_succ]
  refine HeldU.wpAnyU_early (i := 4) (v := ?_) rfl (by kernel_rfl) (by kernel_rfl) (by kernel_rfl) (by kernel_rfl) (by rfl) (by kernel_rfl) (fun _ _ _ h => h) (Or.inl ⟨by rfl, ?_⟩) (by assumption) ?_
  rotate_left
  · intro w hSw
    have hG := hSw.2
    clear hSw
    try dsimp only at hG
    go_simp
    try with_reducible rfl
  try simp only [Act.put, List.getElem_toArray, List.getElem_cons_zero, List.getElem_cons_succ, List.setIfInBounds_toArray, List.set_cons_zero, List.set_cons_succ]
  refine HeldU.wpAnyU_take (i := 5) (v := ?_) rfl (by kernel_rfl) (by kernel_rfl) (by kernel_rfl) (by kernel_rfl) (by rfl) (fun _ _ _ h => h) (Or.inl ⟨by rfl, ?_⟩) (by assumption) ?_
  rotate_left
  · intro w hSw
    try dsimp only at hSw
    go_simp
    try with_reducible rfl
  try simp only [Act.put, List.getElem_toArray, List.getElem_cons_zero, List.getElem_cons_succ, List.setIfInBounds_toArray, List.set_cons_zero, List.set_cons_succ]
  refine HeldU.wpAnyU_take (i := 6) (v := ?_) rfl (by kernel_rfl) (by kernel_rfl) (by kernel_rfl) (by kernel_rfl) (by rfl) (fun _ _ _ h => h) (Or.inl ⟨by rfl, ?_⟩) (by assumption) ?_
  rotate_left
  · intro w hSw
    try dsimp only at hSw
    go_simp
    try with_reducible rfl
  try simp only [Act.put, List.getElem_toArray, List.getElem_cons_zero, List.getElem_cons_succ, List.setIfInBounds_toArray, List.set_cons_zero, List.set_cons_succ]
  refine HeldU.wpAnyU_take (i := 7) (v := ?_) rfl (by kernel_rfl) (by kernel_rfl) (by kernel_rfl) (by kernel_rfl) (by rfl) (fun _ _ _ h => h) (Or.inl ⟨by rfl, ?_⟩) (by assumption) ?_
  rotate_left
  · intro w hSw
    try dsimp only at hSw
    go_simp
    try with_reducible rfl
  try simp only [Act.put, List.getElem_toArray, List.getElem_cons_zero, List.getElem_cons_succ, List.setIfInBounds_toArray, List.set_cons_zero, List.set_cons_succ]
  refine HeldU.wpAnyU_take (i := 8) (v := ?_) rfl (by kernel_rfl) (by kernel_rfl) (by kernel_rfl) (by kernel_rfl) (by rfl) (fun _ _ _ h => h) (Or.inl ⟨by rfl, ?_⟩) (by assumption) ?_
  rotate_left
  · intro w hSw
    try dsimp only at hSw
    go_simp
    try with_reducible rfl
  try simp only [Act.put, List.getElem_toArray, List.getElem_cons_zero, List.getElem_cons_succ, List.setIfInBounds_toArray, List.set_cons_zero, List.set_cons_succ]
  refine HeldU.wpAnyU_take (i := 9) (v := ?_) rfl (by kernel_rfl) (by kernel_rfl) (by kernel_rfl) (by kernel_rfl) (by rfl) (fun _ _ _ h => h) (Or.inl ⟨by rfl, ?_⟩) (by assumption) ?_
  rotate_left
  · intro w hSw
    try dsimp only at hSw
    go_simp
    try with_reducible rfl
  try simp only [Act.put, List.getElem_toArray, List.getElem_cons_zero, List.getElem_cons_succ, List.setIfInBounds_toArray, List.set_cons_zero, List.set_cons_succ]
  refine HeldU.wpAnyU_ready (rs := [10]) (by kernel_rfl) (by simp) ?_
  refine HeldU.AllReadyU.cons rfl (fun K hK => ?_) HeldU.AllReadyU.nil
  have z3 := Gn.frozen_row HSD.out 3
  have c3 := cell_of_row _ _ 3 _ _ (0, 0) HSD.out
  go_simp
  clear z3 c3
  have HX8 := Lib.hid (show (w6.drew.setCell ⟨sb, 3, none⟩ (.int .i64 (max vi mv))).heap[bx]? = some (.cells #[.int .i64 4, .int .i64 mf, .int .i64 mb, .slice A kn.length cap, .int .i64 mv, .int .i64 ml, .int .i64 mp, .int .i64 mm, .int .i64 mc, .int .i64 mn, .int .i64 mx, .string mt, .bool mu, .int .i64 ms, .string me, .slice B es.length cap2] 53 (0, 0)) from (Gn.set_keep _ 3 _ hne).trans HXD.out)
  refine hK.out _ _ ⟨HFF.out _ HX8.out, fun h => Bool.noConfusion (show true = false from h)⟩ (fun hHeld => ?_)
  clear hK K
  try simp only [Act.put, List.getElem_toArray, List.getElem_cons_zero, List.getElem_cons_succ, List.setIfInBounds_toArray, List.set_cons_zero, List.set_cons_succ]
  refine HeldU.wpAnyU_done (by kernel_rfl) ?_ _
  refine NoPanic.normal ?_
  obtain ⟨w8, hw8⟩ : ∃ x, x = (w6.setCell ⟨sb, 3, none⟩ (.int .i64 (max vi mv))).drew := ⟨_, rfl⟩
  rw [← hw8]
  have HS8 := Lib.hid (show SesAt w8 sb ⟨mc, mo, mn, max vi mv, ⟨#[]⟩, ti⟩ by rw [hw8]; exact Gn.heap_set HS6.out 3 _)
  have HP8 := Lib.hid (show Gn.Sep sb w.heap.size w w8 by rw [hw8]; exact (Gn.Sep.setCell HP6.out (p := ⟨sb, 3, none⟩) (.inl rfl) _).trans (Gn.Sep.of_below (Gn.below_drew (Below.refl _ _))))
  have HXE := Lib.hid (show w8.heap[bx]? = some (.cells #[.int .i64 4, .int .i64 mf, .int .i64 mb, .slice A kn.length cap, .int .i64 mv, .int .i64 ml, .int .i64 mp, .int .i64 mm, .int .i64 mc, .int .i64 mn, .int .i64 mx, .string mt, .bool mu, .int .i64 ms, .string me, .slice B es.length cap2] 53 (0, 0)) by rw [hw8]; exact HX8.out)
  have x11 := cell_of_row _ _ 11 _ _ (0, 0) HXE.out
  clear hw8
  go_wp2_with fail
  go_ret2
  exact ⟨rfl, HS8.out, HP8.out⟩
end Go.Proofs.YtgbpofgmomglfaaDoor.Se
