/-
  MarksBytes: of any number's bits the call returns true: its mark, its bytes, what is read of these, and what it is between 0 and 100, are the document's. For every number; the listed variables, strconv's tables, are tied to the program's text by the card.
-/
import Derived.Test.YtfeajbaaoflfeaaDoorMkSpeaks
import Derived.Test.YtfeajbaaoflfeaaDoorCards
import Derived.Test.YtfeajbaaoflfeaaDoorTie
import Derived.SevenTiedAt
namespace Go.Proofs.YtfeajbaaoflfeaaDoor.marksBytes
open Go.ChangeShapes Go.WideShapes Go.ChangeAt Go.RowKit
open Go.ChangeMaps (open_string shut_string)
set_option linter.unusedVariables false

theorem u64_nat {n : Int} (h : (Lit.int .u64 n).wf = true) : ∃ m : Nat, n = (m : Int) ∧ m < 18446744073709551616 := by
  refine ⟨n.toNat, ?_⟩
  simp [Lit.wf, IntKind.min, IntKind.max, IntKind.signed, IntKind.bits] at h
  omega

set_option maxHeartbeats 1000000 in
theorem walk_nat (b : Nat) (hb : b < 18446744073709551616) (w : World) (ht : Mk.Tab w) (hl : Mk.Low w) :
    Calls Tryd.prog 3 #[.int .u64 b] w fun e w' => e = .returned (.bool true) ∧ Below w.heap.size w w' := by
  have hfrom := Mk.mfrom b
  obtain ⟨c, hc⟩ : ∃ c, c = Mk.canon b := ⟨_, rfl⟩
  obtain ⟨s, hs⟩ : ∃ s : ByteArray, s = ⟨(Oct.be 8 c).toArray⟩ := ⟨_, rfl⟩
  have H1 : ∀ W : World, Calls Tryd.prog 10 #[.float .f64 b] W fun e w' => e = .returned (.string s) ∧ Below W.heap.size W w' := fun W => by rw [hs, hc]; exact Mk.put_any b hb W
  have H2 : ∀ W : World, Calls Tryd.prog 15 #[.float .f64 b] W fun e w' => e = .returned (.string s) ∧ Below W.heap.size W w' := fun W => by rw [hs, hc]; exact Mk.rput_any b hb W
  have H3 : ∀ W : World, Calls Tryd.prog 11 #[.string s] W fun e w' => e = .returned (.tuple #[.float .f64 c, .int .i64 0]) ∧ Below W.heap.size W w' := fun W => by
    have := Mk.get_any s W
    rw [hs, show Mk.bs ⟨(Oct.be 8 c).toArray⟩ = Oct.be 8 c from rfl, hc, Mk.gm_be b hb] at this
    rw [hs, hc]; exact this
  have H4 : ∀ W : World, Calls Tryd.prog 13 #[.float .f64 b] W fun e w' => e = .returned (.float .f64 c) ∧ W = w' := fun W => by rw [hc]; exact Mk.canon_any b hb W
  have H5 : ∀ W : World, Calls Tryd.prog 14 #[.float .f64 b] W fun e w' => e = .returned (.float .f64 c) ∧ W = w' := fun W => by rw [hc]; exact Mk.rcanon_any b hb W
  obtain ⟨d, hd⟩ : ∃ d, d = Mk.clamp b := ⟨_, rfl⟩
  have H6 : ∀ W : World, Calls Tryd.prog 16 #[.float .f64 b] W fun e w' => e = .returned (.float .f64 d) ∧ W = w' := fun W => by rw [hd]; exact Mk.clamp_any b hb W
  have H7 : ∀ W : World, Calls Tryd.prog 17 #[.float .f64 b] W fun e w' => e = .returned (.float .f64 d) ∧ W = w' := fun W => by rw [hd]; exact Mk.rclamp_any b hb W (Mk.not_both b)
  have K1 := Lib.hid H1
  have K2 := Lib.hid H2
  have K3 := Lib.hid H3
  have K4 := Lib.hid H4
  have K5 := Lib.hid H5
  have K6 := Lib.hid H6
  have K7 := Lib.hid H7
  have HT := Lib.hid ht
  have t1 : (s.toList == s.toList) = true := by simp
  clear H1 H2 H3 H4 H5 H6 H7 hc hs hd ht
  go_enter Tryd.func3, Tryd.ntmps3
  go_wp2_with fail
  refine (Mk.speaks_true _ HT.out hl).mono ?_
  rintro e w1 ⟨rfl, b1⟩
  go_wp2_with fail
  refine (K1.out _).mono ?_
  rintro e w2 ⟨rfl, b2'⟩
  have b2 := b1.trans (b2'.mono b1.size)
  clear b2'
  go_wp2_with fail
  refine (K3.out _).mono ?_
  rintro e w3 ⟨rfl, b3'⟩
  have b3 := b2.trans (b3'.mono b2.size)
  clear b3'
  go_wp2_with fail
  refine (K4.out _).mono ?_
  rintro e w4 ⟨rfl, rfl⟩
  go_wp2_with fail
  refine (K5.out _).mono ?_
  rintro e w4 ⟨rfl, rfl⟩
  go_wp2_with fail
  refine (Mk.same_self _ _).mono ?_
  rintro e w4 ⟨rfl, rfl⟩
  go_wp2_with fail
  refine (K2.out _).mono ?_
  rintro e w5 ⟨rfl, b5'⟩
  have b5 := b3.trans (b5'.mono b3.size)
  clear b5'
  go_wp2_with fail
  refine (K5.out _).mono ?_
  rintro e w6 ⟨rfl, rfl⟩
  go_wp2_with fail
  refine (Mk.same_self _ _).mono ?_
  rintro e w6 ⟨rfl, rfl⟩
  go_wp2_with fail
  refine (K6.out _).mono ?_
  rintro e w6 ⟨rfl, rfl⟩
  go_wp2_with fail
  refine (K7.out _).mono ?_
  rintro e w6 ⟨rfl, rfl⟩
  go_wp2_with fail
  refine (Mk.same_self _ _).mono ?_
  rintro e w6 ⟨rfl, rfl⟩
  go_wp2
  go_ret
  exact ⟨rfl, b5⟩

theorem walk (n : Int) (wf : (Lit.int .u64 n).wf = true) (w : World) (ht : Mk.Tab w) (hl : Mk.Low w) :
    Calls Tryd.prog 3 #[.int .u64 n] w fun e w' => e = .returned (.bool true) ∧ Below w.heap.size w w' := by
  obtain ⟨m, rfl, hm⟩ := u64_nat wf
  exact walk_nat m hm w ht hl

set_option maxRecDepth 100000 in
theorem lifted (os : Os) (started : os.Started) (H : Type) (enc : TypeId × Value → H) :
    ReturnsInHanded {} Tryd.checked os 3 .any (fun w args => (Rows.marksBytesSpec.pre enc Tryd.prog Tryd.f3 [] false w args ∧ laidMetH Tryd.prog Mk.laidL w) ∧ sizedMet enc Tryd.prog Tryd.f3 (OpenSpec.ofChange Rows.marksBytesSpec) false w args)
      (Rows.marksBytesSpec.post enc Tryd.prog Tryd.f3 false true false false) := by
  refine returnsInHanded_of_change_and (C := Tryd.checked) (X := fun w _ => laidMetH Tryd.prog Mk.laidL w) (fun _ _ _ hh h => h.of_heap hh) Mk.own started (by kernel_rfl) Tryd.func3
    (ChangeSpec.witness_shaped (enc := enc) (C := Tryd.checked) (os := os) (X := fun w _ => laidMetH Tryd.prog Mk.laidL w) false (World.laidAll Tryd.prog os Mk.laidL) #[.int .u64 0] 8 (World.laidAll_os _ _ _) (Mk.start_shaped os _) (by kernel_rfl) (by kernel_rfl) (by kernel_rfl) (Mk.start_met os _)) ?_
  intro W base args ds gs before hval0 hW _ _ hL _
  have hval : ∀ (j : Nat) t v, Tryd.f3.params[j]? = some t → args[j]? = some v → Value.okWide Tryd.prog W .any base t v := hval0
  have hW' := hW
  obtain ⟨p, q, hA0, hV, rfl, hfz, hnd⟩ := hW
  have hA : DataW.TrodAll enc Tryd.prog W 0 (fun _ => true) true Tryd.f3.params.toList args.toList ds p := hA0
  rw [Tryd.params3] at hA hval
  obtain ⟨v0, vs0, d0, ds0, p0, q0, hargs, rfl, rfl, h0, r0⟩ := trodAll_cons hA
  obtain ⟨rfl, rfl, rfl⟩ := trodAll_nil r0
  obtain rfl : args = #[v0] := by cases args; simp_all
  obtain ⟨rfl, rfl⟩ := trodVars_none hV
  obtain ⟨a0, rfl, rfl, rfl, w0⟩ := open_int Tryd.underlying22 (hval 0 22 v0 rfl rfl) h0
  obtain ⟨ht, hl⟩ := Mk.of_laid hL
  clear hA0 hval0
  refine (walk a0 w0 W ht hl).mono fun e W' ⟨he, bel⟩ => ?_
  subst he
  exact ⟨_, rfl, _, _, _, [], _, [], hW', trodAll_mk1 (shut_bool Tryd.underlying4 _), (trodAll_cons_mk (shut_int Tryd.underlying22 w0) trodAll_mk0), rfl, bel.frame _, fun h => by cases h⟩

theorem over : Rows.MarksBytesSaid :=
  OpenClaim.holds_of_wide 3 Tryd.f3 rfl rfl rfl rfl rfl rfl rfl ⟨rfl, rfl, rfl, rfl, rfl⟩ rfl rfl rfl rfl rfl (by kernel_rfl) Tryd.func3 (by kernel_rfl)
    (of_decide_eq_true (by kernel_rfl)) (by unfold Func.isWrapper; first | (rw [if_pos (by decide +kernel)]; kernel_rfl) | (rw [if_neg (by decide +kernel)]; exact ⟨rfl, rfl⟩))
    (fun os started H enc _ => lifted os started H enc)

theorem proved : Rows.MarksBytesCardSaid :=
  Claim7.holds_tied_plain_at .later [] Rows.marksBytesCard.laidKinds true Rows.marksBytesCard.stood.harness false
    over (fun _ h => by cases h) (by kernel_rfl) (fun _ h => by cases h) marksBytes_row_tie rfl ⟨rfl, rfl⟩ (by kernel_rfl) rfl
    (fun f fn hf hfn => by
      obtain rfl : f = 3 := Option.some.inj ((show Tryd.prog.funcNamed "primer/primerlaw02.MarksBytes" = some 3 by kernel_rfl).symm.trans hf) |>.symm
      obtain rfl : fn = Tryd.f3 := (Option.some.inj (Tryd.func3.symm.trans hfn)).symm
      exact ⟨by kernel_rfl, fun j t ht => by
        rw [Tryd.params3] at ht
        have hm : t ∈ [22] := by simpa using Array.mem_of_getElem? ht
        have hall : ([22].all fun u => !Tryd.prog.wantsStandIn u) = true := by kernel_rfl
        exact (show Tryd.prog.wantsStandIn t = false by simpa using List.all_eq_true.1 hall t hm)⟩)
    (by kernel_rfl)
#print axioms proved
end Go.Proofs.YtfeajbaaoflfeaaDoor.marksBytes
