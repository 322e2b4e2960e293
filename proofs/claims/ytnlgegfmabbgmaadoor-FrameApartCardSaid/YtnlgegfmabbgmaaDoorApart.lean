/-
  FrameApart: of any two bodies the call returns true: their frames are the same just where the bodies are; a frame as a body is opened again. For every two texts; the one listed variable, the table of the sum, is tied to the program's text by the card.
-/
import Derived.Test.YtnlgegfmabbgmaaDoorFrSpeaks
import Derived.Test.YtnlgegfmabbgmaaDoorCards
import Derived.Test.YtnlgegfmabbgmaaDoorTie
import Derived.SevenTiedAt
namespace Go.Proofs.YtnlgegfmabbgmaaDoor.frameApart
open Go.ChangeShapes Go.WideShapes Go.ChangeAt Go.RowKit
open Go.ChangeMaps (open_string shut_string)
set_option linter.unusedVariables false


theorem wr_inj {a b : List UInt8} (ha : a.length ≤ 1048576) (hb : b.length ≤ 1048576) (h : Crc.wr a = Crc.wr b) : a = b := by
  have h1 := Crc.op_wr a ha
  rw [h, Crc.op_wr b hb] at h1
  exact (Prod.ext_iff.1 h1).1.symm

set_option maxHeartbeats 1000000 in
theorem walk_far (a b : ByteArray) (w : World) (hst : Crc.Steps w) (h0 : 0 < w.heap.size) (hs : 2000 < (a.size : Int) ∨ 2000 < (b.size : Int)) :
    Calls Tryd.prog 7 #[.string a, .string b] w fun e w' => e = .returned (.bool true) ∧ Below w.heap.size w w' := by
  have KS := Lib.hid hst
  clear hst
  by_cases h1 : 2000 < (a.size : Int)
  · clear hs
    go_enter Tryd.func7, Tryd.ntmps7
    go_wp2_with fail
    refine (Crc.speaks_true _ KS.out h0).mono ?_
    rintro e w1 ⟨rfl, b1⟩
    go_wp2
    go_ret
    exact ⟨rfl, b1⟩
  · have h2 : 2000 < (b.size : Int) := by omega
    clear hs
    go_enter Tryd.func7, Tryd.ntmps7
    go_wp2_with fail
    refine (Crc.speaks_true _ KS.out h0).mono ?_
    rintro e w1 ⟨rfl, b1⟩
    go_wp2
    go_ret
    exact ⟨rfl, b1⟩

set_option maxHeartbeats 1000000 in
theorem walk_near (a b : ByteArray) (w : World) (hst : Crc.Steps w) (h0 : 0 < w.heap.size) (ha : (a.size : Int) ≤ 2000) (hb : (b.size : Int) ≤ 2000) :
    Calls Tryd.prog 7 #[.string a, .string b] w fun e w' => e = .returned (.bool true) ∧ Below w.heap.size w w' := by
  have KS := Lib.hid hst
  have hal : (Oct.bs a).length ≤ 2000 := by rw [Oct.bs_length]; omega
  have hbl : (Oct.bs b).length ≤ 2000 := by rw [Oct.bs_length]; omega
  obtain ⟨f, hf⟩ : ∃ f : ByteArray, f = ⟨(Crc.wr (Oct.bs a)).toArray⟩ := ⟨_, rfl⟩
  obtain ⟨g, hg⟩ : ∃ g : ByteArray, g = ⟨(Crc.wr (Oct.bs b)).toArray⟩ := ⟨_, rfl⟩
  have hfs : (Oct.bs f).length ≤ 2012 := by rw [hf, Crc.bs_mk]; have := Crc.wr_le (Oct.bs a); omega
  obtain ⟨d, hd⟩ : ∃ d : ByteArray, d = ⟨(Crc.wr (Oct.bs f)).toArray⟩ := ⟨_, rfl⟩
  have hds : d.size ≤ 2024 := by rw [hd, Crc.size_mk]; have := Crc.wr_le (Oct.bs f); omega
  have H1 : ∀ W : World, Crc.Steps W → 0 < W.heap.size → Calls Tryd.prog 9 #[.string a] W fun e w' => e = .returned (.string f) ∧ Below W.heap.size W w' := fun W x y => by rw [hf]; exact Crc.wrap_any _ W x y
  have H2 : ∀ W : World, Crc.Steps W → 0 < W.heap.size → Calls Tryd.prog 9 #[.string b] W fun e w' => e = .returned (.string g) ∧ Below W.heap.size W w' := fun W x y => by rw [hg]; exact Crc.wrap_any _ W x y
  have H3 : ∀ W : World, Crc.Steps W → 0 < W.heap.size → Calls Tryd.prog 9 #[.string f] W fun e w' => e = .returned (.string d) ∧ Below W.heap.size W w' := fun W x y => by rw [hd]; exact Crc.wrap_any _ W x y
  have H4 : ∀ W : World, Crc.Steps W → Calls Tryd.prog 10 #[.string d] W fun e w' => e = .returned (.tuple #[.string f, .int .i64 0]) ∧ Below W.heap.size W w' := fun W x => by
    have := Crc.open_any d W (by omega) x
    rw [hd, Crc.bs_mk, Crc.op_wr _ (Nat.le_trans hfs (by decide)), Crc.two, Crc.mk_bs] at this
    rw [hd]
    exact this
  have hiff : Oct.bs f = Oct.bs g ↔ Oct.bs a = Oct.bs b := by
    rw [hf, hg, Crc.bs_mk, Crc.bs_mk]
    exact ⟨wr_inj (Nat.le_trans hal (by decide)) (Nat.le_trans hbl (by decide)), fun h => by rw [h]⟩
  have t1 : (f.toList == g.toList) = (a.toList == b.toList) := by
    rw [Crc.toList_beq, Crc.toList_beq]; simp only [hiff]
  have t2 : (f.toList == f.toList) = true := by simp
  have K1 := Lib.hid H1
  have K2 := Lib.hid H2
  have K3 := Lib.hid H3
  have K4 := Lib.hid H4
  clear H1 H2 H3 H4 hf hg hd hfs hds hst hal hbl hiff
  go_enter Tryd.func7, Tryd.ntmps7
  go_wp2_with fail
  refine (Crc.speaks_true _ KS.out h0).mono ?_
  rintro e w1 ⟨rfl, b1⟩
  have h1 := Nat.lt_of_lt_of_le h0 b1.size
  go_wp2_with fail
  refine (K1.out _ (KS.out.of b1 h0) h1).mono ?_
  rintro e w2 ⟨rfl, b2'⟩
  have b2 := b1.trans (b2'.mono b1.size)
  have h2 := Nat.lt_of_lt_of_le h0 b2.size
  clear b2'
  go_wp2_with fail
  refine (K2.out _ (KS.out.of b2 h0) h2).mono ?_
  rintro e w3 ⟨rfl, b3'⟩
  have b3 := b2.trans (b3'.mono b2.size)
  have h3 := Nat.lt_of_lt_of_le h0 b3.size
  clear b3'
  go_wp2_with fail
  refine (K3.out _ (KS.out.of b3 h0) h3).mono ?_
  rintro e w4 ⟨rfl, b4'⟩
  have b4 := b3.trans (b4'.mono b3.size)
  clear b4'
  go_wp2_with fail
  refine (K4.out _ (KS.out.of b4 h0)).mono ?_
  rintro e w5 ⟨rfl, b5'⟩
  have b5 := b4.trans (b5'.mono b4.size)
  clear b5'
  go_wp2
  go_ret
  exact ⟨rfl, b5⟩

theorem walk (a b : ByteArray) (w : World) (hst : Crc.Steps w) (h0 : 0 < w.heap.size) :
    Calls Tryd.prog 7 #[.string a, .string b] w fun e w' => e = .returned (.bool true) ∧ Below w.heap.size w w' := by
  by_cases h : 2000 < (a.size : Int) ∨ 2000 < (b.size : Int)
  · exact walk_far a b w hst h0 h
  · exact walk_near a b w hst h0 (by omega) (by omega)

set_option maxRecDepth 100000 in
theorem lifted (os : Os) (started : os.Started) (H : Type) (enc : TypeId × Value → H) :
    ReturnsInHanded {} Tryd.checked os 7 .any (fun w args => (Rows.frameApartSpec.pre enc Tryd.prog Tryd.f7 [] false w args ∧ laidMetH Tryd.prog Crc.laidL w) ∧ sizedMet enc Tryd.prog Tryd.f7 (OpenSpec.ofChange Rows.frameApartSpec) false w args)
      (Rows.frameApartSpec.post enc Tryd.prog Tryd.f7 false true false false) := by
  refine returnsInHanded_of_change_and (C := Tryd.checked) (X := fun w _ => laidMetH Tryd.prog Crc.laidL w) (fun _ _ _ hh h => h.of_heap hh) Crc.own started (by kernel_rfl) Tryd.func7
    (ChangeSpec.witness_shaped (enc := enc) (C := Tryd.checked) (os := os) (X := fun w _ => laidMetH Tryd.prog Crc.laidL w) false (World.doorLaid Tryd.prog 400 os) #[.string ByteArray.empty, .string ByteArray.empty] 8 rfl (World.shaped_of_RefB (by kernel_rfl) (by kernel_rfl)) (by kernel_rfl) (by kernel_rfl) (by kernel_rfl) (Crc.door_met os _)) ?_
  intro W base args ds gs before hval0 hW _ _ hL _
  have hval : ∀ (j : Nat) t v, Tryd.f7.params[j]? = some t → args[j]? = some v → Value.okWide Tryd.prog W .any base t v := hval0
  have hW' := hW
  obtain ⟨p, q, hA0, hV, rfl, hfz, hnd⟩ := hW
  have hA : DataW.TrodAll enc Tryd.prog W 0 (fun _ => true) true Tryd.f7.params.toList args.toList ds p := hA0
  rw [Tryd.params7] at hA hval
  obtain ⟨v0, vs0, d0, ds0, p0, q0, hargs, rfl, rfl, h0, r0⟩ := trodAll_cons hA
  obtain ⟨v1, vs1, d1, ds1, p1, q1, rfl, rfl, rfl, h1, r1⟩ := trodAll_cons r0
  obtain ⟨rfl, rfl, rfl⟩ := trodAll_nil r1
  obtain rfl : args = #[v0, v1] := by cases args; simp_all
  obtain ⟨rfl, rfl⟩ := trodVars_none hV
  obtain ⟨a0, rfl, rfl, rfl, w0⟩ := open_string Tryd.underlying9 (hval 0 9 v0 rfl rfl) h0
  obtain ⟨a1, rfl, rfl, rfl, w1⟩ := open_string Tryd.underlying9 (hval 1 9 v1 rfl rfl) h1
  obtain ⟨hst, hsz⟩ := Crc.of_laid hL
  clear hA0 hval0
  refine (walk a0 a1 W hst hsz).mono fun e W' ⟨he, bel⟩ => ?_
  subst he
  exact ⟨_, rfl, _, _, _, [], _, [], hW', trodAll_mk1 (shut_bool Tryd.underlying4 _), (trodAll_cons_mk (shut_string Tryd.underlying9 w0) (trodAll_cons_mk (shut_string Tryd.underlying9 w1) trodAll_mk0)), rfl, bel.frame _, fun h => by cases h⟩

theorem over : Rows.FrameApartSaid :=
  OpenClaim.holds_of_wide 7 Tryd.f7 rfl rfl rfl rfl rfl rfl rfl ⟨rfl, rfl, rfl, rfl, rfl⟩ rfl rfl rfl rfl rfl (by kernel_rfl) Tryd.func7 (by kernel_rfl)
    (of_decide_eq_true (by kernel_rfl)) (by unfold Func.isWrapper; first | (rw [if_pos (by decide +kernel)]; kernel_rfl) | (rw [if_neg (by decide +kernel)]; exact ⟨rfl, rfl⟩))
    (fun os started H enc _ => lifted os started H enc)

theorem proved : Rows.FrameApartCardSaid :=
  Claim7.holds_tied_plain_at .later [] Rows.frameApartCard.laidKinds true Rows.frameApartCard.stood.harness false
    over (fun _ h => by cases h) (by kernel_rfl) (fun _ h => by cases h) frameApart_row_tie rfl ⟨rfl, rfl⟩ (by kernel_rfl) rfl
    (fun f fn hf hfn => by
      obtain rfl : f = 7 := Option.some.inj ((show Tryd.prog.funcNamed "primer/primerlaw03.FrameApart" = some 7 by kernel_rfl).symm.trans hf) |>.symm
      obtain rfl : fn = Tryd.f7 := (Option.some.inj (Tryd.func7.symm.trans hfn)).symm
      exact ⟨by kernel_rfl, fun j t ht => by
        rw [Tryd.params7] at ht
        have hm : t ∈ [9, 9] := by simpa using Array.mem_of_getElem? ht
        have hall : ([9, 9].all fun u => !Tryd.prog.wantsStandIn u) = true := by kernel_rfl
        exact (show Tryd.prog.wantsStandIn t = false by simpa using List.all_eq_true.1 hall t hm)⟩)
    (by kernel_rfl)
#print axioms proved
end Go.Proofs.YtnlgegfmabbgmaaDoor.frameApart
