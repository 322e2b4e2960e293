/-
  LexNames: of any text the call returns true: it is a good name just where the plain answer says so, and a good name is one token, and the end. For every text; no condition of ours.
-/
import Derived.Test.YteaolilndkjlpaaLxSpeaks
import Derived.Test.YteaolilndkjlpaaLxGood
import Derived.Test.YteaolilndkjlpaaRows
import Derived.ProofKit
import Derived.OpenShut
import Derived.ShutString
import Derived.ChangeOld
namespace Go.Proofs.Yteaolilndkjlpaa.lexNames
open Go.ChangeShapes Go.WideShapes Go.ChangeAt Go.RowKit
open Go.ChangeMaps (open_string shut_string)
open Lx (bs)
set_option linter.unusedVariables false

theorem own : ownKnob Try.prog.godebug = none := by kernel_rfl

theorem good_list (l : List UInt8) (h : Lx.goodB l = true) : Lx.GoodL l := by
  unfold Lx.goodB at h
  rw [decide_eq_true_eq] at h
  obtain ⟨h0, h32, hn⟩ := h
  cases l with
  | nil => simp at h0
  | cons b r =>
    rw [Lx.nsz] at hn
    by_cases hl : Lx.letterN b.toNat = true
    · rw [if_pos hl] at hn
      refine ⟨h0, h32, ?_, (Lx.run_all _).1 hn⟩
      intro b' r' e
      injection e with e1 e2
      rw [← e1]; exact hl
    · rw [if_neg hl] at hn
      simp at hn
theorem good_scan (l : List UInt8) (h : Lx.GoodL l) : Lx.scanS l = ([⟨1, l, 1, 1⟩, ⟨4, [], 1, 1 + l.length⟩], (0, 0, 0)) := by
  have h32 := h.2.1
  rw [Lx.scanS, if_neg (by omega)]
  have := Lx.scan_name l [] 1 1 h (fun b r e => by simp at e)
  rw [List.append_nil] at this
  rw [this, Lx.scan_end]
  rfl

set_option maxHeartbeats 2000000 in
theorem walk (s : ByteArray) (w : World) :
    Calls Try.prog 4 #[.string s] w fun e w' => e = .returned (.bool true) ∧ Below w.heap.size w w' := by
  by_cases hs : 200 < (s.size : Int)
  · go_enter Try.func4, Try.ntmps4
    go_wp2_with fail
    refine (Lx.speaks_true _).mono ?_
    rintro e w1 ⟨rfl, b1⟩
    go_wp2
    go_ret
    exact ⟨rfl, b1⟩
  · obtain ⟨R, hR⟩ : ∃ R, R = Lx.scanS (bs s) := ⟨_, rfl⟩
    have KS := fun W => Lx.scan_any s W (by omega)
    rw [← hR] at KS
    have KG := fun W => Lx.good_any s W (by omega)
    have KR := fun W => Lx.rgood_any s W (by omega)
    cases hg : Lx.goodB (bs s)
    · rw [hg] at KG KR
      obtain ⟨T, f0, f1, f2⟩ := R
      have K1 := Lib.hid KS
      have K2 := Lib.hid KG
      have K3 := Lib.hid KR
      clear KS KG KR hR hg
      go_enter Try.func4, Try.ntmps4
      go_wp2_with fail
      refine (Lx.speaks_true _).mono ?_
      rintro e w1 ⟨rfl, b1⟩
      go_wp2_with fail
      refine (K2.out _).mono ?_
      rintro e w2 ⟨rfl, rfl⟩
      go_wp2_with fail
      refine (K3.out _).mono ?_
      rintro e w2 ⟨rfl, rfl⟩
      go_wp2_with fail
      refine (K1.out _).mono ?_
      rintro e w2 ⟨A, cap, rfl, hown, hb⟩
      simp only [Lx.fltV]
      have HB := Lib.hid (b1.trans (hb.mono b1.size))
      clear hown hb
      go_wp2
      go_ret
      exact ⟨rfl, HB.out.alloc HB.out.size _⟩
    · rw [hg] at KG KR
      have hsc := good_scan _ (good_list _ hg)
      rw [← hR] at hsc
      rw [hsc] at KS
      have K1 := Lib.hid KS
      have K2 := Lib.hid KG
      have K3 := Lib.hid KR
      have t1 : (s.toList == s.toList) = true := by simp
      clear KS KG KR hR hg hsc
      go_enter Try.func4, Try.ntmps4
      go_wp2_with fail
      refine (Lx.speaks_true _).mono ?_
      rintro e w1 ⟨rfl, b1⟩
      go_wp2_with fail
      refine (K2.out _).mono ?_
      rintro e w2 ⟨rfl, rfl⟩
      go_wp2_with fail
      refine (K3.out _).mono ?_
      rintro e w2 ⟨rfl, rfl⟩
      go_wp2_with fail
      refine (K1.out _).mono ?_
      rintro e w2 ⟨A, cap, rfl, hown, hb⟩
      simp only [Lx.fltV]
      obtain ⟨r, rfl, hr, hr2, hcap, hc⟩ := Lx.row_at hown (by show 0 < 2; omega)
      have c0 : w2.cell? ⟨r, 0, none⟩ = some (.int .i64 1) := hc 0 _ rfl
      have c1 : w2.cell? ⟨r, 1, none⟩ = some (.string s) := hc 1 _ rfl
      have HB := Lib.hid (b1.trans (hb.mono b1.size))
      simp only [List.length_cons, List.length_nil] at *
      clear hown hb hc
      go_wp2
      go_ret
      exact ⟨rfl, HB.out.alloc HB.out.size _⟩

set_option maxRecDepth 100000 in
theorem lifted (os : Os) (started : os.Started) (H : Type) (enc : TypeId × Value → H) :
    ReturnsInHanded {} Try.checked os 4 .any (Rows.lexNamesSpec.pre6 enc Try.prog Try.f4 Rows.lexNamesRow.domain false) (Rows.lexNamesSpec.post enc Try.prog Try.f4 false true false false) := by
  refine returnsInHanded_of_change (C := Try.checked) own started (by kernel_rfl) Try.func4
    (ChangeSpec.witness6 (enc := enc) (C := Try.checked) false ⟨#[], #[.string ByteArray.empty], []⟩ 8 (by kernel_rfl) (by kernel_rfl) (by kernel_rfl) (by kernel_rfl)) ?_
  intro W base args ds gs before hval0 hW hcnd _
  have hval : ∀ (j : Nat) t v, Try.f4.params[j]? = some t → args[j]? = some v → Value.okWide Try.prog W .any base t v := hval0
  have hW' := hW
  obtain ⟨p, q, hA0, hV, rfl, hfz, hnd⟩ := hW
  have hA : DataW.TrodAll enc Try.prog W 0 (fun _ => true) true Try.f4.params.toList args.toList ds p := hA0
  rw [Try.params4] at hA hval
  obtain ⟨v0, vs0, d0, ds0, p0, q0, hargs, rfl, rfl, h0, r0⟩ := trodAll_cons hA
  obtain ⟨rfl, rfl, rfl⟩ := trodAll_nil r0
  obtain rfl : args = #[v0] := by cases args; simp_all
  obtain ⟨rfl, rfl⟩ := trodVars_none hV
  obtain ⟨a0, rfl, rfl, rfl, w0⟩ := open_string Try.underlying9 (hval 0 9 v0 rfl rfl) h0
  clear hA0 hval0
  refine (walk a0 W).mono fun e W' ⟨he, bel⟩ => ?_
  subst he
  exact ⟨_, rfl, _, _, _, [], _, [], hW', trodAll_mk1 (shut_bool Try.underlying4 _), (trodAll_cons_mk (shut_string Try.underlying9 w0) trodAll_mk0), rfl, bel.frame _, fun h => by cases h⟩

theorem over : Rows.LexNamesSaid :=
  OpenClaim.holds_of_wide 4 Try.f4 rfl rfl rfl rfl rfl rfl rfl ⟨rfl, rfl, rfl, rfl, rfl⟩ rfl rfl rfl rfl rfl (by kernel_rfl) Try.func4 (by kernel_rfl)
    (of_decide_eq_true (by kernel_rfl)) (by unfold Func.isWrapper; first | (rw [if_pos (by decide +kernel)]; kernel_rfl) | (rw [if_neg (by decide +kernel)]; exact ⟨rfl, rfl⟩))
    (fun os started H enc _ => lifted os started H enc)

theorem proved : Rows.LexNamesSaid := over
#print axioms proved
end Go.Proofs.Yteaolilndkjlpaa.lexNames
