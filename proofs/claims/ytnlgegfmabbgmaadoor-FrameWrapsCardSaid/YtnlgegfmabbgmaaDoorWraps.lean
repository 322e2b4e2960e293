/-
  FrameWraps: of any body the call returns true: its sum and its frame are the document's, and the frame is opened again as that body. For every text; the one listed variable, the table of the sum, is tied to the program's text by the card.
-/
import Derived.Test.YtnlgegfmabbgmaaDoorFrSpeaks
import Derived.Test.YtnlgegfmabbgmaaDoorCards
import Derived.Test.YtnlgegfmabbgmaaDoorTie
import Derived.SevenTiedAt
namespace Go.Proofs.YtnlgegfmabbgmaaDoor.frameWraps
open Go.ChangeShapes Go.WideShapes Go.ChangeAt Go.RowKit
open Go.ChangeMaps (open_string shut_string)
set_option linter.unusedVariables false

set_option maxHeartbeats 1000000 in
theorem walk (s : ByteArray) (w : World) (hst : Crc.Steps w) (h0 : 0 < w.heap.size) :
    Calls Tryd.prog 3 #[.string s] w fun e w' => e = .returned (.bool true) ∧ Below w.heap.size w w' := by
  have KS := Lib.hid hst
  by_cases hs : 5000 < (s.size : Int)
  · clear hst
    go_enter Tryd.func3, Tryd.ntmps3
    go_wp2_with fail
    refine (Crc.speaks_true _ KS.out h0).mono ?_
    rintro e w1 ⟨rfl, b1⟩
    go_wp2
    go_ret
    exact ⟨rfl, b1⟩
  · obtain ⟨f, hf⟩ : ∃ f : ByteArray, f = ⟨(Crc.wr (Oct.bs s)).toArray⟩ := ⟨_, rfl⟩
    have hbl : (Oct.bs s).length ≤ 1048576 := by rw [Oct.bs_length]; omega
    have hfs : f.size ≤ 5012 := by rw [hf, Crc.size_mk]; have := Crc.wr_le (Oct.bs s); rw [Oct.bs_length] at this; omega
    have H1 : ∀ W : World, Crc.Steps W → 0 < W.heap.size → Calls Tryd.prog 9 #[.string s] W fun e w' => e = .returned (.string f) ∧ Below W.heap.size W w' := fun W a b => by rw [hf]; exact Crc.wrap_any _ W a b
    have H2 : ∀ W : World, Crc.Steps W → Calls Tryd.prog 10 #[.string f] W fun e w' => e = .returned (.tuple #[.string s, .int .i64 0]) ∧ Below W.heap.size W w' := fun W a => by
      have := Crc.open_any f W (by omega) a
      rw [hf, Crc.bs_mk, Crc.op_wr _ hbl, Crc.two, Crc.mk_bs] at this
      rw [hf]
      exact this
    have H3 : ∀ W : World, Calls Tryd.prog 13 #[.string s] W fun e w' => e = .returned (.string f) ∧ Below W.heap.size W w' := fun W => by rw [hf]; exact Crc.rwrap_any _ W
    obtain ⟨v, hv⟩ : ∃ v : Int, v = ((Crc.sum (Oct.bs s) : Nat) : Int) := ⟨_, rfl⟩
    have H4 : ∀ W : World, Crc.Steps W → Calls Tryd.prog 11 #[.string s] W fun e w' => e = .returned (.int .u32 v) ∧ W = w' := fun W a => by rw [hv]; exact Crc.sum_any s W (by omega) a
    have H5 : ∀ W : World, Calls Tryd.prog 12 #[.string s] W fun e w' => e = .returned (.int .u32 v) ∧ W = w' := fun W => by rw [hv]; exact Crc.rsum_any s W (by omega)
    have K1 := Lib.hid H1
    have K2 := Lib.hid H2
    have K3 := Lib.hid H3
    have K4 := Lib.hid H4
    have K5 := Lib.hid H5
    have t1 : (f.toList == f.toList) = true := by simp
    have t2 : (s.toList == s.toList) = true := by simp
    clear H1 H2 H3 H4 H5 hf hfs hst hbl hv
    go_enter Tryd.func3, Tryd.ntmps3
    go_wp2_with fail
    refine (Crc.speaks_true _ KS.out h0).mono ?_
    rintro e w1 ⟨rfl, b1⟩
    have h1 := Nat.lt_of_lt_of_le h0 b1.size
    go_wp2_with fail
    refine (K1.out _ (KS.out.of b1 h0) h1).mono ?_
    rintro e w2 ⟨rfl, b2'⟩
    have b2 := b1.trans (b2'.mono b1.size)
    clear b2'
    go_wp2_with fail
    refine (K2.out _ (KS.out.of b2 h0)).mono ?_
    rintro e w3 ⟨rfl, b3'⟩
    have b3 := b2.trans (b3'.mono b2.size)
    clear b3'
    go_wp2_with fail
    refine (K4.out _ (KS.out.of b3 h0)).mono ?_
    rintro e w4 ⟨rfl, rfl⟩
    go_wp2_with fail
    refine (K5.out _).mono ?_
    rintro e w5 ⟨rfl, rfl⟩
    go_wp2_with fail
    refine (K3.out _).mono ?_
    rintro e w6 ⟨rfl, b6⟩
    go_wp2
    go_ret
    exact ⟨rfl, b3.trans (b6.mono b3.size)⟩

set_option maxRecDepth 100000 in
theorem lifted (os : Os) (started : os.Started) (H : Type) (enc : TypeId × Value → H) :
    ReturnsInHanded {} Tryd.checked os 3 .any (fun w args => (Rows.frameWrapsSpec.pre enc Tryd.prog Tryd.f3 [] false w args ∧ laidMetH Tryd.prog Crc.laidL w) ∧ sizedMet enc Tryd.prog Tryd.f3 (OpenSpec.ofChange Rows.frameWrapsSpec) false w args)
      (Rows.frameWrapsSpec.post enc Tryd.prog Tryd.f3 false true false false) := by
  refine returnsInHanded_of_change_and (C := Tryd.checked) (X := fun w _ => laidMetH Tryd.prog Crc.laidL w) (fun _ _ _ hh h => h.of_heap hh) Crc.own started (by kernel_rfl) Tryd.func3
    (ChangeSpec.witness_shaped (enc := enc) (C := Tryd.checked) (os := os) (X := fun w _ => laidMetH Tryd.prog Crc.laidL w) false (World.doorLaid Tryd.prog 400 os) #[.string ByteArray.empty] 8 rfl (World.shaped_of_RefB (by kernel_rfl) (by kernel_rfl)) (by kernel_rfl) (by kernel_rfl) (by kernel_rfl) (Crc.door_met os _)) ?_
  intro W base args ds gs before hval0 hW _ _ hL _
  have hval : ∀ (j : Nat) t v, Tryd.f3.params[j]? = some t → args[j]? = some v → Value.okWide Tryd.prog W .any base t v := hval0
  have hW' := hW
  obtain ⟨p, q, hA0, hV, rfl, hfz, hnd⟩ := hW
  have hA : DataW.TrodAll enc Tryd.prog W 0 (fun _ => true) true Tryd.f3.params.toList args.toList ds p := hA0
  rw [Tryd.params3] at hA hval
  obtain ⟨v0, vs0, d0, ds0, p0, q0, hargs, rfl, rfl, h0, r0⟩ := trodAll_cons hA
  obtain ⟨rfl, rfl, rfl⟩ := trodAll_nil r0
  obtain rfl : args = #[v0] := by cases args; simp_all
  obtain ⟨rfl, rfl⟩ := trodVars_none hV
  obtain ⟨a0, rfl, rfl, rfl, w0⟩ := open_string Tryd.underlying9 (hval 0 9 v0 rfl rfl) h0
  obtain ⟨hst, hsz⟩ := Crc.of_laid hL
  clear hA0 hval0
  refine (walk a0 W hst hsz).mono fun e W' ⟨he, bel⟩ => ?_
  subst he
  exact ⟨_, rfl, _, _, _, [], _, [], hW', trodAll_mk1 (shut_bool Tryd.underlying4 _), (trodAll_cons_mk (shut_string Tryd.underlying9 w0) trodAll_mk0), rfl, bel.frame _, fun h => by cases h⟩

theorem over : Rows.FrameWrapsSaid :=
  OpenClaim.holds_of_wide 3 Tryd.f3 rfl rfl rfl rfl rfl rfl rfl ⟨rfl, rfl, rfl, rfl, rfl⟩ rfl rfl rfl rfl rfl (by kernel_rfl) Tryd.func3 (by kernel_rfl)
    (of_decide_eq_true (by kernel_rfl)) (by unfold Func.isWrapper; first | (rw [if_pos (by decide +kernel)]; kernel_rfl) | (rw [if_neg (by decide +kernel)]; exact ⟨rfl, rfl⟩))
    (fun os started H enc _ => lifted os started H enc)

theorem proved : Rows.FrameWrapsCardSaid :=
  Claim7.holds_tied_plain_at .later [] Rows.frameWrapsCard.laidKinds true Rows.frameWrapsCard.stood.harness false
    over (fun _ h => by cases h) (by kernel_rfl) (fun _ h => by cases h) frameWraps_row_tie rfl ⟨rfl, rfl⟩ (by kernel_rfl) rfl
    (fun f fn hf hfn => by
      obtain rfl : f = 3 := Option.some.inj ((show Tryd.prog.funcNamed "primer/primerlaw03.FrameWraps" = some 3 by kernel_rfl).symm.trans hf) |>.symm
      obtain rfl : fn = Tryd.f3 := (Option.some.inj (Tryd.func3.symm.trans hfn)).symm
      exact ⟨by kernel_rfl, fun j t ht => by
        rw [Tryd.params3] at ht
        have hm : t ∈ [9] := by simpa using Array.mem_of_getElem? ht
        have hall : ([9].all fun u => !Tryd.prog.wantsStandIn u) = true := by kernel_rfl
        exact (show Tryd.prog.wantsStandIn t = false by simpa using List.all_eq_true.1 hall t hm)⟩)
    (by kernel_rfl)
#print axioms proved
end Go.Proofs.YtnlgegfmabbgmaaDoor.frameWraps
