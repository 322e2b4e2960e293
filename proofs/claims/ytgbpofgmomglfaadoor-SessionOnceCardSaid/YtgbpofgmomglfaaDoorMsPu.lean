/-
  Layer 23: Put.
-/
import Derived.Test.YtgbpofgmomglfaaDoorMsGd
import Derived.Test.YtgbpofgmomglfaaDoorMsWr
import Derived.Test.YtgbpofgmomglfaaDoorMFrW
namespace Go.Proofs.YtgbpofgmomglfaaDoor.Ms
open Oct (pb bs OutSt OSep Left app eInt eText eBool eLen)
open Gn (Asks)
open Crc (wr)
open Go.RowKit
set_option maxRecDepth 100000
set_option linter.unusedSimpArgs false
set_option linter.unusedVariables false

def shp : Sh → Bool
  | .nums js => decide (js.length ≤ 100) && js.all isNum
  | .text j => j == 11 || j == 14
  | _ => true
theorem len_next (C : WrC) (hC : WrFix C) (st : Option (List UInt8)) (a : Sh) (ha : shp a = true) : Oct.len (wrNext C.m st a) ≤ Oct.len st + 71000000 := by
  cases a with
  | nums js =>
    have h1 := len_nums C.m js st
    unfold shp at ha
    simp only [Bool.and_eq_true, decide_eq_true_eq] at ha
    show Oct.len (js.foldl (fun st j => app st (eInt (numAt C.m j))) st) ≤ _
    omega
  | known =>
    have h1 := len_ints C.m.known st
    have h2 := hC.kn
    show Oct.len (C.m.known.foldl (fun st n => app st (eInt n)) st) ≤ _
    omega
  | text j =>
    have h1 := Oct.len_app st (eText (bs (txtAt C.m j)))
    have h2 := len_eTx (bs (txtAt C.m j))
    show Oct.len (app st (eText (bs (txtAt C.m j)))) ≤ _
    omega
  | yes =>
    have h1 := Oct.len_app st (eBool C.m.full)
    have h2 : Oct.len (eBool C.m.full) = 1 := rfl
    show Oct.len (app st (eBool C.m.full)) ≤ _
    omega
  | entry =>
    have h1 := len_ents C.m.ents st
    have h2 := hC.en
    show Oct.len (C.m.ents.foldl eEnt st) ≤ _
    omega
  | entries =>
    have h1 := len_ents C.m.ents (app st (eInt C.m.ents.length))
    have h2 := hC.en
    have h3 := len_add st C.m.ents.length
    show Oct.len (C.m.ents.foldl eEnt (app st (eInt C.m.ents.length))) ≤ _
    omega
theorem wr_Ok (C : WrC) (hC : WrFix C) : ∀ (acts : List Sh) (st : Option (List UInt8)), acts.all shp = true → Oct.len st + 71000000 * acts.length ≤ 1000000000000 → (wrV C).Ok st acts
  | [], _, _, _ => trivial
  | a :: l, st, hs, hl => by
    rw [List.all_cons, Bool.and_eq_true] at hs
    rw [List.length_cons] at hl
    have hn := len_next C hC st a hs.1
    refine ⟨?_, wr_Ok C hC l _ hs.2 ?_⟩
    · have hf : Fit st := by unfold Fit; omega
      cases a with
      | nums js =>
        have h := hs.1
        unfold shp at h
        simp only [Bool.and_eq_true, decide_eq_true_eq, List.all_eq_true] at h
        exact ⟨h.1, h.2, hf⟩
      | text j =>
        have h := hs.1
        unfold shp at h
        simp only [Bool.or_eq_true, beq_iff_eq] at h
        exact ⟨h, hf⟩
      | known => exact hf
      | yes => exact hf
      | entry => exact hf
      | entries => exact hf
    · show Oct.len (wrNext C.m st a) + _ ≤ _
      omega
theorem after_foldl {σ : Type} (V : Vis σ) : ∀ (l : List Sh) (s : σ), V.after s l = l.foldl V.next s
  | [], _ => rfl
  | a :: l, s => after_foldl V l (V.next s a)
theorem show_shp (k : Int) (f : Bool) : (showA k f).all shp = true ∧ (showA k f).length ≤ 100 := by
  by_cases k1 : k = 1
  · subst k1
    cases f <;> exact ⟨by rfl, by decide⟩
  by_cases k2 : k = 2
  · subst k2
    cases f <;> exact ⟨by rfl, by decide⟩
  by_cases k3 : k = 3
  · subst k3
    cases f <;> exact ⟨by rfl, by decide⟩
  by_cases k4 : k = 4
  · subst k4
    cases f <;> exact ⟨by rfl, by decide⟩
  by_cases k5 : k = 5
  · subst k5
    cases f <;> exact ⟨by rfl, by decide⟩
  by_cases k6 : k = 6
  · subst k6
    cases f <;> exact ⟨by rfl, by decide⟩
  by_cases k7 : k = 7
  · subst k7
    cases f <;> exact ⟨by rfl, by decide⟩
  by_cases k8 : k = 8
  · subst k8
    cases f <;> exact ⟨by rfl, by decide⟩
  by_cases k9 : k = 9
  · subst k9
    cases f <;> exact ⟨by rfl, by decide⟩
  by_cases k11 : k = 11
  · subst k11
    cases f <;> exact ⟨by rfl, by decide⟩
  by_cases k12 : k = 12
  · subst k12
    cases f <;> exact ⟨by rfl, by decide⟩
  by_cases k10 : k = 10
  · subst k10
    cases f with
    | true => exact ⟨by rfl, by decide⟩
    | false => exact ⟨by rfl, by decide⟩
  · have h : showA k f = [.nums [1, 2], .known] := by
      unfold showA kindA
      simp only [k1, k2, k3, k4, k5, k6, k7, k8, k9, k10, k11, k12, if_false]
    rw [h]
    cases f <;> exact ⟨by rfl, by decide⟩
/-- The bytes of a message's body, if it has any. -/
def bodyO (m : Msg) : Option (List UInt8) := (showA m.kind m.full).foldl (wrNext m) (app (some []) (eInt m.kind))
def putM (m : Msg) (r : Int) : ByteArray := if goodM m r = true ∧ (bodyO m).isSome = true then ⟨(wr ((bodyO m).getD [])).toArray⟩ else if goodM m r = true then ⟨(wr []).toArray⟩ else ⟨#[]⟩
set_option maxHeartbeats 16000000 in
theorem put_any (kind frm born : Int) (known : List Int) (view last op commit client number nonce : Int) (text : ByteArray) (full : Bool) (base : Int) (state : ByteArray) (ents : List Ent) (a : Option Addr) (n cap : Nat) (b : Option Addr) (nn cap2 : Nat) (r : Int) (w : World) (hst : Crc.Steps w) (h0 : 0 < w.heap.size) (hn : known.length = n) (hnn : ents.length = nn) (hi : Ints w a n known) (he : Ents w b nn ents) (h1 : n ≤ 1000) (h2 : nn ≤ 1000) :
    Calls Tryd.prog 14 #[.agg #[.int .i64 kind, .int .i64 frm, .int .i64 born, .slice a n cap, .int .i64 view, .int .i64 last, .int .i64 op, .int .i64 commit, .int .i64 client, .int .i64 number, .int .i64 nonce, .string text, .bool full, .int .i64 base, .string state, .slice b nn cap2], .int .i64 r] w fun e w' => e = .returned (.string (putM ⟨kind, frm, born, known, view, last, op, commit, client, number, nonce, text, full, base, state, ents⟩ r)) ∧ Below w.heap.size w w' := by
  obtain ⟨m, hm⟩ : ∃ m : Msg, m = ⟨kind, frm, born, known, view, last, op, commit, client, number, nonce, text, full, base, state, ents⟩ := ⟨_, rfl⟩
  have hcm : cellsM m a cap b cap2 = #[.int .i64 kind, .int .i64 frm, .int .i64 born, .slice a n cap, .int .i64 view, .int .i64 last, .int .i64 op, .int .i64 commit, .int .i64 client, .int .i64 number, .int .i64 nonce, .string text, .bool full, .int .i64 base, .string state, .slice b nn cap2] := by rw [hm]; unfold cellsM; dsimp only; rw [hn, hnn]
  obtain ⟨AG, hAG⟩ : ∃ v, v = Value.agg #[.int .i64 kind, .int .i64 frm, .int .i64 born, .slice a n cap, .int .i64 view, .int .i64 last, .int .i64 op, .int .i64 commit, .int .i64 client, .int .i64 number, .int .i64 nonce, .string text, .bool full, .int .i64 base, .string state, .slice b nn cap2] := ⟨_, rfl⟩
  obtain ⟨gd, hgd⟩ : ∃ x, x = goodM m r := ⟨_, rfl⟩
  have HGO := Lib.hid (fun (w' : World) (bl : Below w.heap.size w w') => show Calls Tryd.prog 27 #[AG, .int .i64 r] w' (Says gd w') by
    rw [hAG, hgd, hm]
    exact good_any kind frm born known view last op commit client number nonce text full base state ents a n cap b nn cap2 r w' hn hnn (hi.under bl) (he.under bl) (by omega) (by omega))
  have HLD := Lib.hid (fun (w' : World) (g : Nat) (h : w'.heap[g]? = some (.cells (cellsM m a cap b cap2) 53 (0, 0))) => show (loadVar 53 ⟨g, 0, none⟩).run Tryd.prog w' = .ok AG w' by
    rw [hcm] at h
    rw [hAG]
    exact run_loadVar_row w' _ _ 53 _ _ _ h Tryd.underlying53 rfl (by kernel_rfl))
  have hkf : m.kind = kind := by rw [hm]
  have hinI : Ints w a m.known.length m.known := by rw [hm]; dsimp only; rw [hn]; exact hi
  have hinE : Ents w b m.ents.length m.ents := by rw [hm]; dsimp only; rw [hnn]; exact he
  have hk1 : m.known.length ≤ 1000 := by rw [hm]; dsimp only; omega
  have hk2 : m.ents.length ≤ 1000 := by rw [hm]; dsimp only; omega
  rw [← hm]
  obtain ⟨V, hV⟩ : ∃ V, V = w.alloc (.cells #[.int .i64 kind, .int .i64 frm, .int .i64 born, .slice a n cap, .int .i64 view, .int .i64 last, .int .i64 op, .int .i64 commit, .int .i64 client, .int .i64 number, .int .i64 nonce, .string text, .bool full, .int .i64 base, .string state, .slice b nn cap2] 53) := ⟨_, rfl⟩
  have hb : Below w.heap.size w V := by rw [hV]; exact (Below.refl _ w).alloc (Nat.le_refl _) _
  have hx : V.heap[w.heap.size]? = some (.cells (cellsM m a cap b cap2) 53 (0, 0)) := by rw [hV, hcm]; exact heap_alloc_new w _
  have HST := Lib.hid (fun (w' : World) (b : Below w.heap.size w w') => hst.of b h0)
  have HS0 := Lib.hid h0
  have HV := Lib.hid hV
  have HB0 := Lib.hid hb
  have HX0 := Lib.hid hx
  have HAG := Lib.hid hAG
  have HGD := Lib.hid hgd
  have HKF := Lib.hid hkf
  have HII := Lib.hid hinI
  have HEE := Lib.hid hinE
  have HK1 := Lib.hid hk1
  have HK2 := Lib.hid hk2
  obtain ⟨p, hp⟩ : ∃ p, p = w.heap.size := ⟨_, rfl⟩
  rw [← hp] at HX0
  have HP := Lib.hid hp
  clear hcm hm hV hb hx hst h0 hn hnn hi he h1 h2 hAG hgd hkf hinI hinE hk1 hk2 hp
  go_enter Tryd.func14, Tryd.ntmps14
  go_upto_region 1 with fail
  rw [← HV.out, ← HP.out, ← HAG.out]
  clear HV HAG
  have hload := HLD.out _ _ HX0.out
  go_wp2_with (first | (refine wpList_load (by rfl) 53 _ rfl _ rfl _ hload ?_) | fail)
  refine (HGO.out _ HB0.out).mono ?_
  rintro e w1 ⟨rfl, b1⟩
  have HB1 := Lib.hid (HB0.out.trans (b1.mono HB0.out.size))
  have HX1 := Lib.hid ((b1.block _ (Gn.heap_lt HX0.out)).trans HX0.out)
  clear b1 hload
  cases gd with
  | false =>
    have HPM := Lib.hid (show putM m r = ⟨#[]⟩ by unfold putM; rw [← HGD.out]; rfl)
    go_wp2
    go_ret
    exact ⟨by rw [HPM.out]; rfl, HB1.out⟩
  | true =>
    obtain ⟨V2, hV2⟩ : ∃ V, V = w1.alloc (Oct.obj (.pointer none) (.int .i64 0) (.bool false)) := ⟨_, rfl⟩
    obtain ⟨g, hg⟩ : ∃ g, g = w1.heap.size := ⟨_, rfl⟩
    have hout : OutSt V2 g (g + 1) (some []) := by rw [hV2, hg]; exact Oct.OutSt.new w1
    have hb2 : Below w1.heap.size w1 V2 := by rw [hV2]; exact (Below.refl _ _).alloc (Nat.le_refl _) _
    have hpl : p < w1.heap.size := Gn.heap_lt HX1.out
    have hwp : w.heap.size ≤ p := by rw [HP.out]; exact Nat.le_refl _
    have hfix : WrFix ⟨w, p, g, g + 1, m, a, cap, b, cap2⟩ := ⟨hwp, by show p < g + 1; omega, by show p ≠ g; omega, by show w.heap.size ≤ g; omega, HII.out, HEE.out, HK1.out, HK2.out⟩
    have hR : WrR ⟨w, p, g, g + 1, m, a, cap, b, cap2⟩ (some []) V2 := ⟨hout, (hb2.block _ hpl).trans HX1.out, HB1.out.trans (hb2.mono HB1.out.size), by show w.heap.size ≤ g + 1; omega⟩
    have x0 : V2.cell? ⟨p, 0, none⟩ = some (.int .i64 kind) := by rw [cell_of_row _ _ 0 _ _ (0, 0) hR.msg]; show some (Value.int .i64 m.kind) = _; rw [HKF.out]
    have HFX := Lib.hid hfix
    have HR := Lib.hid hR
    have HV2 := Lib.hid (show V2 = w1.alloc (.cells #[.pointer none, .int .i64 0, .bool false] 79) from hV2)
    have HG := Lib.hid hg
    clear hV2 hg hout hb2 hpl hwp hfix hR
    go_upto_region 4 with fail
    rw [← HV2.out, ← HG.out]
    go_wp2_with fail
    refine (Oct.int_any g (g + 1) (some []) kind _ HR.out.out (by show 0 + 8 ≤ _; omega)).mono ?_
    rintro e w2 ⟨rfl, ho, hs⟩
    have hR2 := WrR.left HFX.out HR.out ho hs
    rw [show app (some []) (eInt kind) = app (some []) (eInt m.kind) by rw [HKF.out]] at hR2
    have hss := show_shp m.kind m.full
    have hkk := HGD.out.symm
    unfold goodM at hkk
    simp only [Bool.and_eq_true] at hkk
    have hkn : knownB m.kind = true := by simp [hkk]
    unfold knownB at hkn
    simp only [Bool.and_eq_true, decide_eq_true_eq] at hkn
    have hl0 := len_add (some []) m.kind
    have hl1 : Oct.len (some []) = 0 := rfl
    have hsh := show_any (wrV ⟨w, p, g, g + 1, m, a, cap, b, cap2⟩) (wr_ok _ HFX.out) _ w2 hR2 hkn.1 hkn.2 (wr_Ok _ HFX.out _ _ hss.1 (by have := hss.2; show Oct.len (app (some []) (eInt m.kind)) + 71000000 * (showA m.kind m.full).length ≤ _; omega))
    rw [after_foldl] at hsh
    have HSH := Lib.hid (show Calls Tryd.prog 29 #[.pointer (some ⟨p, 0, none⟩), .iface 82 (.pointer (some ⟨g, 0, none⟩))] w2 (fun e w' => e = .returned (.tuple #[]) ∧ WrR ⟨w, p, g, g + 1, m, a, cap, b, cap2⟩ (bodyO m) w') from hsh)
    clear ho hs hR2 hss hkk hkn hsh hl0 hl1 x0
    have hmi : ∀ w : World, (Instr.makeInterface 82 (.pointer (some ⟨g, 0, none⟩))).run Tryd.prog w = .ok (.iface 82 (.pointer (some ⟨g, 0, none⟩))) w := fun w => by kernel_rfl
    go_wp2_with fail
    clear hmi
    refine HSH.out.mono ?_
    rintro e w3 ⟨rfl, hR3⟩
    have HR3 := Lib.hid hR3
    clear hR3
    obtain ⟨bo, hbo⟩ : ∃ x, x = bodyO m := ⟨_, rfl⟩
    rw [← hbo] at HR3
    go_wp2_with fail
    refine (Oct.bytes_any g (g + 1) bo _ HR3.out.out).mono ?_
    rintro e w4 ⟨rfl, hd⟩
    have HB4 := Lib.hid (HR3.out.bel.trans (hd.below _))
    obtain ⟨sb, hsb⟩ : ∃ s : ByteArray, s = ⟨(bo.getD []).toArray⟩ := ⟨_, rfl⟩
    rw [← hsb]
    have HPM := Lib.hid (show putM m r = ⟨(wr (bs sb)).toArray⟩ by
      unfold putM
      rw [← HGD.out, ← hbo, hsb]
      cases bo with
      | none => rfl
      | some l => rfl)
    clear hd hbo hsb
    go_wp2_with fail
    refine (Crc.wrap_any sb _ (HST.out _ HB4.out) (by have := HB4.out.size; have := HS0.out; omega)).mono ?_
    rintro e w5 ⟨rfl, b5⟩
    have HB5 := Lib.hid (HB4.out.trans (b5.mono HB4.out.size))
    clear b5
    go_wp2
    go_ret
    exact ⟨by rw [HPM.out]; rfl, HB5.out⟩
end Go.Proofs.YtgbpofgmomglfaaDoor.Ms
