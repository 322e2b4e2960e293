/-
  OctetsPuts: of any number and whatever stands behind its bytes the call returns true: its bytes are the document's, and they are read again as that number. For every number and every text; no condition of ours.
-/
import Derived.Test.YtjemofhppljcbaaOctSpeaks
import Derived.ProofKit
import Derived.OpenShut
import Derived.ShutString
import Derived.ChangeOld
namespace Go.Proofs.Ytjemofhppljcbaa.octetsPuts
open Go.ChangeShapes Go.WideShapes Go.ChangeAt Go.RowKit
open Go.ChangeMaps (open_string shut_string)
set_option linter.unusedVariables false

theorem own : ownKnob Try.prog.godebug = none := by kernel_rfl

set_option maxHeartbeats 1000000 in
theorem walk (n : Int) (a1 : ByteArray) (w : World) :
    Calls Try.prog 3 #[.int .i64 n, .string a1] w fun e w' => e = .returned (.bool true) ∧ Below w.heap.size w w' := by
  obtain ⟨s, hs⟩ : ∃ s : ByteArray, s = ⟨(Oct.pb n).toArray⟩ := ⟨_, rfl⟩
  have hbs : Oct.bs s = Oct.pb n := by rw [hs]
  have hsz : s.size ≤ 8 := by rw [← Oct.bs_length, hbs]; exact Oct.pb_len n
  have h1 : ∀ W : World, Calls Try.prog 10 #[.int .i64 n] W fun e w' => e = .returned (.string s) ∧ Below W.heap.size W w' := fun W => by rw [hs]; exact Oct.put_any n W
  have h2 : ∀ W : World, Calls Try.prog 11 #[.int .i64 n] W fun e w' => e = .returned (.string s) ∧ Below W.heap.size W w' := fun W => by rw [hs]; exact Oct.rput_any n W
  have H1 := Lib.hid h1
  have H2 := Lib.hid h2
  clear h1 h2
  have hst : (s.toList == s.toList) = true := by simp
  by_cases hr : Oct.rng n
  · have he : s.toList.isEmpty = true := by rw [hs, ByteArray.toList_mk, Oct.pb_no n hr]; rfl
    clear hs hbs hr hsz
    go_enter Try.func3, Try.ntmps3
    go_wp2_with fail
    refine (Oct.speaks_true _).mono ?_
    rintro e w1 ⟨rfl, b1⟩
    go_wp2_with fail
    refine (H1.out _).mono ?_
    rintro e w2 ⟨rfl, b2⟩
    go_wp2_with fail
    refine (H2.out _).mono ?_
    rintro e w3 ⟨rfl, b3⟩
    go_wp2
    go_ret
    exact ⟨rfl, b1.trans ((b2.trans (b3.mono b2.size)).mono b1.size)⟩
  · have he : s.toList.isEmpty = false := by
      rw [hs, ByteArray.toList_mk]
      cases h5 : Oct.pb n with
      | nil => exact absurd h5 (Oct.pb_ne n hr)
      | cons a b => rfl
    by_cases hl : 1000 < (a1.size : Int)
    · clear hs hbs hr hsz
      go_enter Try.func3, Try.ntmps3
      go_wp2_with fail
      refine (Oct.speaks_true _).mono ?_
      rintro e w1 ⟨rfl, b1⟩
      go_wp2_with fail
      refine (H1.out _).mono ?_
      rintro e w2 ⟨rfl, b2⟩
      go_wp2_with fail
      refine (H2.out _).mono ?_
      rintro e w3 ⟨rfl, b3⟩
      go_wp2
      go_ret
      exact ⟨rfl, b1.trans ((b2.trans (b3.mono b2.size)).mono b1.size)⟩
    · have hgb : Oct.gb (Oct.bs (s ++ a1)) = (n, s.size, 0) := by
        have e1 : Oct.bs (s ++ a1) = Oct.pb n ++ Oct.bs a1 := by rw [← hbs]; simp [Oct.bs]
        rw [e1, Oct.gb_pb n _ hr, ← hbs]; rfl
      have hcat : (s ++ a1).size = s.size + a1.size := by simp
      have h3 : ∀ W : World, Calls Try.prog 12 #[.string (s ++ a1)] W fun e w' => e = .returned (.tuple #[.int .i64 n, .int .i64 s.size, .int .i64 0]) ∧ W = w' := fun W => by
        have := Oct.get_any (s ++ a1) W (by omega)
        rw [hgb] at this
        exact this
      have H3 := Lib.hid h3
      have hns : ¬ 9223372036854775807 < s.size + a1.size := by omega
      clear hs hbs hr hgb hcat h3
      go_enter Try.func3, Try.ntmps3
      go_wp2_with fail
      refine (Oct.speaks_true _).mono ?_
      rintro e w1 ⟨rfl, b1⟩
      go_wp2_with fail
      refine (H1.out _).mono ?_
      rintro e w2 ⟨rfl, b2⟩
      go_wp2_with fail
      refine (H2.out _).mono ?_
      rintro e w3 ⟨rfl, b3⟩
      go_wp2_with fail
      refine (H3.out _).mono ?_
      rintro e w4 ⟨rfl, rfl⟩
      go_wp2
      go_ret
      exact ⟨rfl, b1.trans ((b2.trans (b3.mono b2.size)).mono b1.size)⟩

set_option maxRecDepth 100000 in
theorem lifted (os : Os) (started : os.Started) (H : Type) (enc : TypeId × Value → H) :
    ReturnsInHanded {} Try.checked os 3 .any (Rows.octetsPutsSpec.pre6 enc Try.prog Try.f3 Rows.octetsPutsRow.domain false) (Rows.octetsPutsSpec.post enc Try.prog Try.f3 false true false false) := by
  refine returnsInHanded_of_change (C := Try.checked) own started (by kernel_rfl) Try.func3
    (ChangeSpec.witness6 (enc := enc) (C := Try.checked) false ⟨#[], #[.int .i64 0, .string ByteArray.empty], []⟩ 8 (by kernel_rfl) (by kernel_rfl) (by kernel_rfl) (by kernel_rfl)) ?_
  intro W base args ds gs before hval0 hW hcnd _
  have hval : ∀ (j : Nat) t v, Try.f3.params[j]? = some t → args[j]? = some v → Value.okWide Try.prog W .any base t v := hval0
  have hW' := hW
  obtain ⟨p, q, hA0, hV, rfl, hfz, hnd⟩ := hW
  have hA : DataW.TrodAll enc Try.prog W 0 (fun _ => true) true Try.f3.params.toList args.toList ds p := hA0
  rw [Try.params3] at hA hval
  obtain ⟨v0, vs0, d0, ds0, p0, q0, hargs, rfl, rfl, h0, r0⟩ := trodAll_cons hA
  obtain ⟨v1, vs1, d1, ds1, p1, q1, rfl, rfl, rfl, h1, r1⟩ := trodAll_cons r0
  obtain ⟨rfl, rfl, rfl⟩ := trodAll_nil r1
  obtain rfl : args = #[v0, v1] := by cases args; simp_all
  obtain ⟨rfl, rfl⟩ := trodVars_none hV
  obtain ⟨a0, rfl, rfl, rfl, w0⟩ := open_int Try.underlying3 (hval 0 3 v0 rfl rfl) h0
  obtain ⟨a1, rfl, rfl, rfl, w1⟩ := open_string Try.underlying9 (hval 1 9 v1 rfl rfl) h1
  clear hA0 hval0
  refine (walk a0 a1 W).mono fun e W' ⟨he, bel⟩ => ?_
  subst he
  exact ⟨_, rfl, _, _, _, [], _, [], hW', trodAll_mk1 (shut_bool Try.underlying4 _), (trodAll_cons_mk (shut_int Try.underlying3 w0) (trodAll_cons_mk (shut_string Try.underlying9 w1) trodAll_mk0)), rfl, bel.frame _, fun h => by cases h⟩

theorem over : Rows.octetsPutsRow.holds Try.pinned (OpenSpec.ofChange Rows.octetsPutsSpec) :=
  OpenClaim.holds_of_wide 3 Try.f3 rfl rfl rfl rfl rfl rfl rfl ⟨rfl, rfl, rfl, rfl, rfl⟩ rfl rfl rfl rfl rfl (by kernel_rfl) Try.func3 (by kernel_rfl)
    (of_decide_eq_true (by kernel_rfl)) (by unfold Func.isWrapper; first | (rw [if_pos (by decide +kernel)]; kernel_rfl) | (rw [if_neg (by decide +kernel)]; exact ⟨rfl, rfl⟩))
    (fun os started H enc _ => lifted os started H enc)

theorem proved : Rows.OctetsPutsSaid := over
#print axioms proved
end Go.Proofs.Ytjemofhppljcbaa.octetsPuts
