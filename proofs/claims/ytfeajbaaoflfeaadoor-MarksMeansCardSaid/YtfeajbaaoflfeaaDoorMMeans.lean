/-
  MarksMeans: of any marks, weights and numbers the call returns true: the mean, the weighed mean and the share are the document's. For every input; the listed variables, strconv's tables, are tied to the program's text by the card.
-/
import Derived.Test.YtfeajbaaoflfeaaDoorMkSpeaks
import Derived.Test.YtfeajbaaoflfeaaDoorMkWeigh3
import Derived.Test.YtfeajbaaoflfeaaDoorCards
import Derived.Test.YtfeajbaaoflfeaaDoorTie
import Derived.SevenTiedAt
import Derived.BigQuiet
import Derived.Deep.QuietTactic
namespace Go.Proofs.YtfeajbaaoflfeaaDoor.marksMeans
open Go.ChangeShapes Go.WideShapes Go.ChangeAt Go.RowKit
open Go.ChangeMaps (open_string shut_string)
open Mk (Wds Fls Made two Drew)
set_option linter.unusedVariables false

/-- The two numbers, as they are boxed. -/
def box (p q : Int) : Obj := .cells #[.int .i64 p, .int .i64 q] 43

/-- Share, as a call that draws at most. -/
theorem share_quiet (p q : Int) (s : Nat) (hs : s = Mk.share p q) (W : World) : Calls Tryd.prog 28 #[.int .i64 p, .int .i64 q] W fun e w' => e = .returned (.float .f64 s) ∧ ∃ n, w' = W.drewN n := by
  rw [hs]; exact Mk.share_any p q W
theorem rshare_quiet (p q : Int) (s : Nat) (hs : s = Mk.share p q) (W : World) : Calls Tryd.prog 29 #[.int .i64 p, .int .i64 q] W fun e w' => e = .returned (.float .f64 s) ∧ ∃ n, w' = W.drewN n := by
  rw [hs]; exact Mk.rshare_any p q W
theorem same_quiet (a : Nat) (W : World) : Calls Tryd.prog 12 #[.float .f64 a, .float .f64 a] W fun e w' => e = .returned (.bool true) ∧ ∃ n, w' = W.drewN n :=
  (Mk.same_self a W).mono fun _ _ ⟨he, hw⟩ => ⟨he, 0, hw ▸ rfl⟩

set_option maxRecDepth 100000 in
set_option maxHeartbeats 4000000 in
theorem walk (a b : Option Addr) (n m c d : Nat) (v u : List Nat) (p q : Int) (hn : n ≤ 9223372036854775807) (hm : m ≤ 9223372036854775807) (w : World) (hv : Wds w a n v) (hu : Wds w b m u) (ht : Mk.Tab w) (hl : Mk.Low w) :
    Calls Tryd.prog 6 #[.slice a n c, .slice b m d, .agg #[.int .i64 p, .int .i64 q]] w fun e w' => e = .returned (.bool true) ∧ Below w.heap.size w w' := by
  have b0 : Below w.heap.size w (w.alloc (box p q)) := (Below.refl _ _).alloc (Nat.le_refl _) _
  have hbox : (w.alloc (box p q)).heap[w.heap.size]? = some (box p q) := heap_alloc_new w _
  have HV := Lib.hid (hv.below b0)
  have HU := Lib.hid (hu.below b0)
  have S0 := Lib.hid (Mk.speaks_true (w.alloc (box p q)) (ht.of hl b0) (hl.of b0))
  have HBX := Lib.hid hbox
  have hsz0 : w.heap.size < (w.alloc (box p q)).heap.size := by rw [Mk.size_alloc]; omega
  obtain ⟨w0, hw0⟩ : ∃ w0, w0 = w.alloc (box p q) := ⟨_, rfl⟩
  have hw0' : w.alloc (.cells #[.int .i64 p, .int .i64 q] 43) = w0 := hw0.symm
  rw [← hw0] at HV HU S0 b0 HBX hsz0
  clear hw0 hv hu ht hl hbox
  obtain ⟨s, hs⟩ : ∃ s, s = Mk.share p q := ⟨_, rfl⟩
  have Q1 := Lib.hid (share_quiet p q s hs)
  have Q2 := Lib.hid (rshare_quiet p q s hs)
  clear hs
  go_enter Tryd.func6, Tryd.ntmps6
  go_wp2_with fail
  clear hw0'
  refine S0.out.mono ?_
  rintro e w1 ⟨rfl, b1⟩
  have hb1 := b0.trans (b1.mono b0.size)
  go_wp2_with fail
  refine (Mk.floats_any a n c v hn _ (HV.out.below b1)).mono ?_
  rintro e w2 ⟨A, k, cp, rfl, hf, hk, b2⟩
  have hb2 := b1.trans (b2.mono b1.size)
  have HF := Lib.hid hf
  clear hf
  go_wp2_with fail
  refine (Mk.floats_any b m d u hm _ (HU.out.below hb2)).mono ?_
  rintro e w3 ⟨B, j, cq, rfl, hg, hj, b3⟩
  have hb3 := hb2.trans (b3.mono hb2.size)
  have HF3 := Lib.hid (HF.out.below b3)
  have HG := Lib.hid hg
  clear hg
  obtain ⟨r, hr⟩ : ∃ r, r = Mk.mean (v.take 40) := ⟨_, rfl⟩
  obtain ⟨x, hx⟩ : ∃ x, x = Mk.weigh (v.take 40) (u.take 40) := ⟨_, rfl⟩
  have M1 : ∀ W : World, Fls W A k (v.take 40) → Calls Tryd.prog 24 #[.slice A k cp] W fun e w' => e = .returned (.tuple #[.float .f64 r.1, .int .i64 r.2]) ∧ Drew W w' := fun W h => by rw [hr]; exact Mk.mean_any A k cp _ (by omega) W h
  have M2 : ∀ W : World, Fls W A k (v.take 40) → Calls Tryd.prog 25 #[.slice A k cp] W fun e w' => e = .returned (.tuple #[.float .f64 r.1, .int .i64 r.2]) ∧ Drew W w' := fun W h => by rw [hr]; exact Mk.rmean_any A k cp _ (by omega) W h
  have W1 : ∀ W : World, Fls W A k (v.take 40) → Fls W B j (u.take 40) → Calls Tryd.prog 26 #[.slice A k cp, .slice B j cq] W fun e w' => e = .returned (.tuple #[.float .f64 x.1, .int .i64 x.2]) ∧ Drew W w' := fun W h h' => by rw [hx]; exact Mk.weigh_any A B k j cp cq _ _ (by omega) W h h'
  have W2 : ∀ W : World, Fls W A k (v.take 40) → Fls W B j (u.take 40) → Calls Tryd.prog 27 #[.slice A k cp, .slice B j cq] W fun e w' => e = .returned (.tuple #[.float .f64 x.1, .int .i64 x.2]) ∧ Drew W w' := fun W h h' => by rw [hx]; exact Mk.rweigh_any A B k j cp cq _ _ (by omega) W h h'
  have KM1 := Lib.hid M1
  have KM2 := Lib.hid M2
  have KW1 := Lib.hid W1
  have KW2 := Lib.hid W2
  clear M1 M2 W1 W2 hr hx
  go_wp2_with fail
  refine (KM1.out _ HF3.out).mono ?_
  rintro e w4 ⟨rfl, d4⟩
  have F4 := Lib.hid (HF3.out.below (d4.below _))
  have G4 := Lib.hid (HG.out.below (d4.below _))
  have hb4 := hb3.trans (d4.below _)
  go_wp2_with fail
  refine (KM2.out _ F4.out).mono ?_
  rintro e w5 ⟨rfl, d5⟩
  have F5 := Lib.hid (F4.out.below (d5.below _))
  have G5 := Lib.hid (G4.out.below (d5.below _))
  have hb5 := hb4.trans (d5.below _)
  go_wp2_with fail
  refine (KW1.out _ F5.out G5.out).mono ?_
  rintro e w6 ⟨rfl, d6⟩
  have F6 := Lib.hid (F5.out.below (d6.below _))
  have G6 := Lib.hid (G5.out.below (d6.below _))
  have hb6 := hb5.trans (d6.below _)
  go_wp2_with fail
  refine (KW2.out _ F6.out G6.out).mono ?_
  rintro e w7 ⟨rfl, d7⟩
  have hb7 := hb6.trans (d7.below _)
  have hbx7 : w7.heap[w.heap.size]? = some (box p q) := (hb7.block w.heap.size hsz0).trans HBX.out
  have c0 : w7.cell? ⟨w.heap.size, 0, none⟩ = some (.int .i64 p) := cell_of_row _ _ _ _ _ (0, 0) hbx7
  have c1 : w7.cell? ⟨w.heap.size, 1, none⟩ = some (.int .i64 q) := cell_of_row _ _ _ _ _ (0, 0) hbx7
  have hfin := b0.trans (hb7.mono b0.size)
  clear hb1 hb2 hb3 hb4 hb5 hb6 hb7 hbx7 d4 d5 d6 d7 b1 b2 b3
  go_wp2_with fail
  go_quiet ((first | (go_at_call 12; exact Calls.quiet_of (same_quiet _ _)) | (go_at_call 28; exact Calls.quiet_of (Q1.out _)) | (go_at_call 29; exact Calls.quiet_of (Q2.out _))))
  go_wp2
  go_ret
  exact ⟨rfl, hfin.trans (Drew.below ⟨_, rfl⟩ _)⟩

theorem u64_nat {n : Int} (h : (Lit.int .u64 n).wf = true) : ∃ m : Nat, n = (m : Int) ∧ m < 18446744073709551616 := by
  refine ⟨n.toNat, ?_⟩
  simp [Lit.wf, IntKind.min, IntKind.max, IntKind.signed, IntKind.bits] at h
  omega

/-- A list of words that came in. -/
theorem came_of {H : Type} {enc : TypeId × Value → H} {W : World} {a0 : Option Addr} {len0 cap0 : Nat} {d : DataW H} {ps : List MemPlace} (h0 : DataW.Trod enc Tryd.prog W 0 (fun _ => true) true 36 (.slice a0 len0 cap0) d ps) :
    ∃ l : List Nat, Wds W a0 len0 l ∧ len0 ≤ 9223372036854775807 := by
  obtain ⟨fuel, hf⟩ := h0
  rcases open_ints Tryd.underlying36 Tryd.underlying22 (by kernel_rfl) hf with ⟨hcs, _⟩ | ⟨x, l, c, zs, hcs, _, hl, hm, hz, _, hcell, hwz⟩
  · simp [Value.cells] at hcs
    obtain ⟨rfl, rfl, rfl⟩ := hcs
    exact ⟨[], ⟨by simp, by simp, fun h => absurd h (by omega)⟩, by omega⟩
  · simp [Value.cells] at hcs
    obtain ⟨rfl, rfl, rfl⟩ := hcs
    have hz' : zs.length = cap0 := by simpa using hz
    unfold maxLen at hm
    refine ⟨(zs.take len0).map Int.toNat, ⟨by rw [List.length_map, List.length_take]; omega, ?_, fun h => ?_⟩, by omega⟩
    · intro y hy
      obtain ⟨z, hz1, rfl⟩ := List.mem_map.1 hy
      obtain ⟨m, rfl, hm2⟩ := u64_nat (hwz z (List.mem_of_mem_take hz1))
      simpa using hm2
    · obtain ⟨b, off, spot⟩ := x
      have hc0 := hcell 0 (by omega)
      have hspot : spot = none := by simpa [Addr.add] using World.cell?_spot hc0
      subst hspot
      refine ⟨b, off, rfl, ?_, fun i hi => ?_⟩
      · have := World.block_lt_of_cell? W _ hc0
        simpa [Addr.add] using this
      · have e : (⟨b, off, none⟩ : Addr).add i = ⟨b, off + i, none⟩ := by unfold Addr.add; split <;> simp_all
        rw [← e, hcell i (by omega)]
        have hi' : i < zs.length := by omega
        have hg : zs.getD i 0 = zs[i] := by rw [List.getD_eq_getElem?_getD, List.getElem?_eq_getElem hi']; rfl
        obtain ⟨m, hm1, hm2⟩ := u64_nat (hwz zs[i] (List.getElem_mem hi'))
        have hg2 : ((zs.take len0).map Int.toNat).getD i 0 = m := by
          rw [List.getD_eq_getElem?_getD, List.getElem?_map, List.getElem?_take_of_lt hi, List.getElem?_eq_getElem hi', hm1]; simp
        rw [hg, hg2, hm1]

theorem laidOut : laidOutB Tryd.prog = true := by kernel_rfl

set_option maxRecDepth 100000 in
/-- The two numbers that came in. -/
theorem two_ints {H : Type} {enc : TypeId × Value → H} {W : World} {v : Value} {d : DataW H} {ps : List MemPlace} (h : DataW.Trod enc Tryd.prog W 0 (fun _ => true) true 43 v d ps) : ∃ p q : Int, v = .agg #[.int .i64 p, .int .i64 q] := by
  obtain ⟨fuel, hf⟩ := h
  obtain ⟨xs, m, _, _, hl, hn, hel⟩ := DataW.trod_array Tryd.underlying43 hf
  have c2 : Tryd.prog.cellsOf 43 = 2 := by kernel_rfl
  have c1 : Tryd.prog.cellsOf 3 = 1 := by kernel_rfl
  rw [c2] at hl
  have e0 := hel 0 (by omega)
  have e1 := hel 1 (by omega)
  rw [c1] at e0 e1
  obtain ⟨x0, x1, hx⟩ := Mk.two_of xs hn
  rw [hx] at e0 e1
  obtain ⟨p, hp, _⟩ := DataW.trod_int Tryd.underlying3 (show _ = some x0 from e0)
  obtain ⟨q, hq, _⟩ := DataW.trod_int Tryd.underlying3 (show _ = some x1 from e1)
  obtain ⟨y0, y1, hy⟩ := Mk.two_of v.cells.toList hl
  rw [hy] at hp hq
  simp at hp hq
  refine ⟨p, q, ?_⟩
  rw [hp, hq] at hy
  cases v <;> simp [Value.cells] at hy
  rename_i ys
  congr 1
  exact Array.ext' (by simpa using hy)

set_option maxRecDepth 100000 in
theorem lifted (os : Os) (started : os.Started) (H : Type) (enc : TypeId × Value → H) :
    ReturnsInHanded {} Tryd.checked os 6 .any (fun w args => (Rows.marksMeansSpec.pre enc Tryd.prog Tryd.f6 [] false w args ∧ laidMetH Tryd.prog Mk.laidL w) ∧ sizedMet enc Tryd.prog Tryd.f6 (OpenSpec.ofChange Rows.marksMeansSpec) false w args)
      (Rows.marksMeansSpec.post enc Tryd.prog Tryd.f6 false true false false) := by
  refine returnsInHanded_of_change_and (C := Tryd.checked) (X := fun w _ => laidMetH Tryd.prog Mk.laidL w) (fun _ _ _ hh h => h.of_heap hh) Mk.own started (by kernel_rfl) Tryd.func6
    (ChangeSpec.witness_shaped (enc := enc) (C := Tryd.checked) (os := os) (X := fun w _ => laidMetH Tryd.prog Mk.laidL w) false (World.laidAll Tryd.prog os Mk.laidL) #[.slice none 0 0, .slice none 0 0, .agg #[.int .i64 0, .int .i64 0]] 8 (World.laidAll_os _ _ _) (Mk.start_shaped os _) (by kernel_rfl) (by kernel_rfl) (by kernel_rfl) (Mk.start_met os _)) ?_
  intro W base args ds gs before hval0 hW _ _ hL _
  have hval : ∀ (j : Nat) t v, Tryd.f6.params[j]? = some t → args[j]? = some v → Value.okWide Tryd.prog W .any base t v := hval0
  have hW' := hW
  obtain ⟨p, q, hA0, hV, rfl, hfz, hnd⟩ := hW
  have hA : DataW.TrodAll enc Tryd.prog W 0 (fun _ => true) true Tryd.f6.params.toList args.toList ds p := hA0
  rw [Tryd.params6] at hA hval
  obtain ⟨v0, vs0, d0, ds0, p0, q0, hargs, rfl, rfl, h0, r0⟩ := trodAll_cons hA
  obtain ⟨v1, vs1, d1, ds1, p1, q1, rfl, rfl, rfl, h1, r1⟩ := trodAll_cons r0
  obtain ⟨v2, vs2, d2, ds2, p2, q2, rfl, rfl, rfl, h2, r2⟩ := trodAll_cons r1
  obtain ⟨rfl, rfl, rfl⟩ := trodAll_nil r2
  obtain rfl : args = #[v0, v1, v2] := by cases args; simp_all
  obtain ⟨rfl, rfl⟩ := trodVars_none hV
  obtain ⟨a0, len0, cap0, rfl⟩ := okWide_slice Tryd.underlying36 (hval 0 36 v0 rfl rfl)
  have k0 := h0
  have lt0 : ∀ x ∈ p0, x.block < W.heap.size := by obtain ⟨m, hm⟩ := k0; exact DataW.trod_lt m _ _ _ hm
  obtain ⟨z0, w0, hm0⟩ := came_of h0
  obtain ⟨a1, len1, cap1, rfl⟩ := okWide_slice Tryd.underlying36 (hval 1 36 v1 rfl rfl)
  have k1 := h1
  have lt1 : ∀ x ∈ p1, x.block < W.heap.size := by obtain ⟨m, hm⟩ := k1; exact DataW.trod_lt m _ _ _ hm
  obtain ⟨z1, w1, hm1⟩ := came_of h1
  obtain ⟨x, y, rfl⟩ := two_ints h2
  have k2 := h2
  have lt2 : ∀ x ∈ p2, x.block < W.heap.size := by obtain ⟨m, hm⟩ := k2; exact DataW.trod_lt m _ _ _ hm
  obtain ⟨ht, hl⟩ := Mk.of_laid hL
  clear hA0 hval0
  refine (walk a0 a1 len0 len1 cap0 cap1 z0 z1 x y hm0 hm1 W w0 w1 ht hl).mono fun e W' ⟨he, bel⟩ => ?_
  subst he
  exact ⟨_, rfl, _, _, _, [], _, [], hW', trodAll_mk1 (shut_bool Tryd.underlying4 _), (trodAll_cons_mk (Below.trod laidOut (by kernel_rfl) (of_decide_eq_true (by kernel_rfl)) k0 bel lt0) (trodAll_cons_mk (Below.trod laidOut (by kernel_rfl) (of_decide_eq_true (by kernel_rfl)) k1 bel lt1) (trodAll_cons_mk (Below.trod laidOut (by kernel_rfl) (of_decide_eq_true (by kernel_rfl)) k2 bel lt2) trodAll_mk0))), rfl, bel.frame _, fun h => by cases h⟩

theorem over : Rows.MarksMeansSaid :=
  OpenClaim.holds_of_wide 6 Tryd.f6 rfl rfl rfl rfl rfl rfl rfl ⟨rfl, rfl, rfl, rfl, rfl⟩ rfl rfl rfl rfl rfl (by kernel_rfl) Tryd.func6 (by kernel_rfl)
    (of_decide_eq_true (by kernel_rfl)) (by unfold Func.isWrapper; first | (rw [if_pos (by decide +kernel)]; kernel_rfl) | (rw [if_neg (by decide +kernel)]; exact ⟨rfl, rfl⟩))
    (fun os started H enc _ => lifted os started H enc)

theorem proved : Rows.MarksMeansCardSaid :=
  Claim7.holds_tied_plain_at .later [] Rows.marksMeansCard.laidKinds true Rows.marksMeansCard.stood.harness false
    over (fun _ h => by cases h) (by kernel_rfl) (fun _ h => by cases h) marksMeans_row_tie rfl ⟨rfl, rfl⟩ (by kernel_rfl) rfl
    (fun f fn hf hfn => by
      obtain rfl : f = 6 := Option.some.inj ((show Tryd.prog.funcNamed "primer/primerlaw02.MarksMeans" = some 6 by kernel_rfl).symm.trans hf) |>.symm
      obtain rfl : fn = Tryd.f6 := (Option.some.inj (Tryd.func6.symm.trans hfn)).symm
      exact ⟨by kernel_rfl, fun j t ht => by
        rw [Tryd.params6] at ht
        have hm : t ∈ [36, 36, 43] := by simpa using Array.mem_of_getElem? ht
        have hall : ([36, 36, 43].all fun u => !Tryd.prog.wantsStandIn u) = true := by kernel_rfl
        exact (show Tryd.prog.wantsStandIn t = false by simpa using List.all_eq_true.1 hall t hm)⟩)
    (by kernel_rfl)
#print axioms proved
end Go.Proofs.YtfeajbaaoflfeaaDoor.marksMeans
