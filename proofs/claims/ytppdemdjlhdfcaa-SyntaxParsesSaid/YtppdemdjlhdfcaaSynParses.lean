/-
  SyntaxParses: of any text the call returns true: the grammar and the fault that Parse tells are the document's, and what is read is proper. For every text; no condition of ours.
-/
import Derived.Test.YtppdemdjlhdfcaaSxQ4
import Derived.Test.YtppdemdjlhdfcaaSxQ3
import Derived.Test.YtppdemdjlhdfcaaRows
import Derived.ProofKit
import Derived.OpenShut
import Derived.ShutString
import Derived.ChangeOld
namespace Go.Proofs.Ytppdemdjlhdfcaa.syntaxParses
open Go.ChangeShapes Go.WideShapes Go.ChangeAt Go.RowKit
open Go.ChangeMaps (open_string shut_string)
open Lx (bs Tk Toks)
open Sx (Asks RlsAt WeT Rul)
set_option linter.unusedVariables false
set_option maxRecDepth 100000

theorem own : ownKnob Try.prog.godebug = none := by kernel_rfl

/-- A grammar and a fault are told. -/
def Tells (W : World) (tx : ByteArray) (n : Nat) (rs : List Rul) (l c k : Nat) (e : Ending) (w' : World) : Prop :=
  ∃ A cp, e = .returned (.tuple #[.agg #[.string tx, .slice A n cp], .agg #[.int .i64 l, .int .i64 c, .int .i64 k]]) ∧ RlsAt (fun q => W.heap.size ≤ q) w' rs (.slice A n cp) ∧ Below W.heap.size W w'
theorem told_all (s : List UInt8) (hs : s.length ≤ 65536) : ∃ (G : Sx.Gram) (l c k : Nat), (k ≠ 0 ∨ (k = 0 ∧ Sx.propG G.start G.rules = true)) ∧ G.start.length ≤ 1048576 ∧ G.rules.length ≤ 1048576 ∧ (∀ r ∈ G.rules, r.1.length ≤ 1048576 ∧ WeT r.2) ∧
    (∀ W e w', Sx.Parsed W (Sx.parseS s) e w' → Tells W (Lx.mk G.start) G.rules.length G.rules l c k e w') ∧ (∀ W e w', Sx.RParsed W (Sx.parseS s) e w' → Tells W (Lx.mk G.start) G.rules.length G.rules l c k e w') := by
  cases hP : Sx.parseS s with
  | no l c k =>
    refine ⟨⟨[], []⟩, l, c, k, .inl (Sx.parseS_code hP), by simp, by simp, fun r hr => absurd hr (by simp), ?_, ?_⟩
    · rintro W e w' ⟨x, y, rfl, hb, rfl, rfl⟩
      exact ⟨none, 0, rfl, RlsAt.nil _ _ _ _, hb⟩
    · rintro W e w' ⟨x, y, rfl, hb, rfl, rfl⟩
      exact ⟨none, 0, rfl, RlsAt.nil _ _ _ _, hb⟩
  | ok G j =>
    obtain ⟨T, e, hsc, hek, het, hv, hT, _, hPT⟩ := Sx.parseS_ok hP (by omega)
    obtain ⟨h32, hsm, hl0, h64⟩ := Sx.parse_small hek hv (by omega) hPT
    obtain ⟨hg, hl, hi⟩ := Sx.parse_fine hek hv hPT
    refine ⟨G, 0, 0, 0, .inr ⟨rfl, ?_⟩, by omega, by omega, fun r hr => ⟨by have := (hsm r hr).1; omega, (hsm r hr).2⟩, ?_, ?_⟩
    · unfold Sx.propG
      rw [hg, decide_eq_true hl, hi]; rfl
    · rintro W e w' ⟨x, y, rfl, hb, ⟨v, rfl, hr⟩, rfl⟩
      obtain ⟨A, cp, rfl⟩ := hr.form
      exact ⟨A, cp, rfl, hr, hb⟩
    · rintro W e w' ⟨x, y, rfl, hb, ⟨v, rfl, hr⟩, rfl⟩
      obtain ⟨A, cp, rfl⟩ := hr.form
      exact ⟨A, cp, rfl, hr, hb⟩

set_option maxHeartbeats 8000000 in
theorem walk (s : ByteArray) (ws : s.size ≤ maxLen) (w : World) :
    Calls Try.prog 3 #[.string s] w fun e w' => e = .returned (.bool true) ∧ Below w.heap.size w w' := by
  by_cases hs : 2000 < (s.size : Int)
  · clear ws
    go_enter Try.func3, Try.ntmps3
    go_wp2_with fail
    refine (Sx.speaks_true _).mono ?_
    rintro e w1 ⟨rfl, b1⟩
    go_wp2
    go_ret
    exact ⟨rfl, b1⟩
  have hbl : (bs s).length = s.size := Lx.bs_len s
  obtain ⟨G, l, c, k, hk, hst, hrl, hsm, hA, hB⟩ := told_all (bs s) (by omega)
  have HKP := Lib.hid (fun w => (Sx.parse_text s w (by omega)).mono (hA w))
  have HKR := Lib.hid (fun w => (Sx.parseq_any s w (by omega)).mono (hB w))
  have hwt : ∀ r ∈ G.rules, WeT r.2 := fun r hr => (hsm r hr).2
  have KG := fun P w v (h : RlsAt P w G.rules v) => Sx.gram_copy G.start G.rules hrl hwt P w v h
  have KS := fun P P' w v v' (h : RlsAt P w G.rules v) (h' : RlsAt P' w G.rules v') => Sx.sameq_any G.start G.rules hrl hwt P P' w v v' h h'
  have KQ := fun P w v (h : RlsAt P w G.rules v) => Sx.proper_any G.start G.rules hst hsm P w v h (by omega)
  obtain ⟨tx, htx⟩ : ∃ tx, tx = Lx.mk G.start := ⟨_, rfl⟩
  obtain ⟨n, hn⟩ : ∃ n, n = G.rules.length := ⟨_, rfl⟩
  rw [← htx, ← hn] at HKP HKR
  simp only [← htx] at KG KS KQ
  have HKG := Lib.hid KG
  have HKS := Lib.hid KS
  have HK := Lib.hid hk
  have HKQ := Lib.hid KQ
  clear ws KG KS KQ hA hB hwt htx hsm hrl hst hbl hk hn
  go_enter Try.func3, Try.ntmps3
  go_wp2_with fail
  refine (Sx.speaks_true _).mono ?_
  rintro e w1 ⟨rfl, b1⟩
  go_wp2_with fail
  refine (HKP.out _).mono ?_
  rintro e w2 ⟨A1, cp1, rfl, hr1, b2⟩
  have HB2 := Lib.hid (b1.trans (b2.mono b1.size))
  have HR1 := Lib.hid hr1
  clear b1 b2 hr1
  go_wp2_with fail
  refine (HKR.out _).mono ?_
  rintro e w3 ⟨A2, cp2, rfl, hr2, b3⟩
  obtain ⟨hg1, hg2, hsz3, hb3⟩ := Sx.two_blocks b3
  have HB3 := Lib.hid hb3
  have HR2 := Lib.hid hr2
  have HG1 := Lib.hid hg1
  have HG2 := Lib.hid hg2
  clear b3 hr2 hb3 hg1 hg2
  go_wp2_with fail
  obtain ⟨V, hV⟩ : ∃ V, V = (w3.alloc (.cells #[.string tx, .slice A2 n cp2] 33)).alloc (.cells #[.int .i64 l, .int .i64 c, .int .i64 k] 35) := ⟨_, rfl⟩
  have hVb : Below w3.heap.size w3 V := by rw [hV]; exact ((Below.refl _ _).alloc (Nat.le_refl _) _).alloc (by simp) _
  have hV1 : V.heap[w3.heap.size]? = some (.cells #[.string tx, .slice A2 n cp2] 33 (0, 0)) := by rw [hV]; exact (heap_alloc_old _ _ (by simp)).trans (heap_alloc_new w3 _)
  have hV2 : V.heap[w3.heap.size + 1]? = some (.cells #[.int .i64 l, .int .i64 c, .int .i64 k] 35 (0, 0)) := by
    have := heap_alloc_new (w3.alloc (.cells #[.string tx, .slice A2 n cp2] 33)) (.cells #[.int .i64 l, .int .i64 c, .int .i64 k] 35)
    rw [Sx.heap_size_alloc'] at this
    rw [hV]; exact this
  have hVs : V.heap.size = w3.heap.size + 2 := by rw [hV]; simp
  rw [← hV]
  clear hV
  have hg1 := (hVb.block _ (by omega)).trans HG1.out
  have hg2 := (hVb.block _ (by omega)).trans HG2.out
  have f0 : V.cell? ⟨w2.heap.size + 1, 0, none⟩ = some (.int .i64 l) := cell_of_row _ _ 0 _ _ (0, 0) hg2
  have f1 : V.cell? ⟨w2.heap.size + 1, 1, none⟩ = some (.int .i64 c) := cell_of_row _ _ 1 _ _ (0, 0) hg2
  have f2 : V.cell? ⟨w2.heap.size + 1, 2, none⟩ = some (.int .i64 k) := cell_of_row _ _ 2 _ _ (0, 0) hg2
  have h0 : V.cell? ⟨w3.heap.size + 1, 0, none⟩ = some (.int .i64 l) := cell_of_row _ _ 0 _ _ (0, 0) hV2
  have h1 : V.cell? ⟨w3.heap.size + 1, 1, none⟩ = some (.int .i64 c) := cell_of_row _ _ 1 _ _ (0, 0) hV2
  have h2 : V.cell? ⟨w3.heap.size + 1, 2, none⟩ = some (.int .i64 k) := cell_of_row _ _ 2 _ _ (0, 0) hV2
  have p0 : V.cell? ⟨w2.heap.size, 0, none⟩ = some (.string tx) := cell_of_row _ _ 0 _ _ (0, 0) hg1
  have p1 : V.cell? ⟨w2.heap.size, 1, none⟩ = some (.slice A1 n cp1) := cell_of_row _ _ 1 _ _ (0, 0) hg1
  have r0 : V.cell? ⟨w3.heap.size, 0, none⟩ = some (.string tx) := cell_of_row _ _ 0 _ _ (0, 0) hV1
  have r1 : V.cell? ⟨w3.heap.size, 1, none⟩ = some (.slice A2 n cp2) := cell_of_row _ _ 1 _ _ (0, 0) hV1
  have HVZ := Lib.hid hVs
  have HSZ3 := Lib.hid hsz3
  have HFR := Lib.hid (fun (w' : World) (hw : ∀ b, b < V.heap.size → w'.heap[b]? = V.heap[b]?) => (⟨(Sx.cell_same (hw _ (by omega)) _).trans f0, (Sx.cell_same (hw _ (by omega)) _).trans f1, (Sx.cell_same (hw _ (by omega)) _).trans f2, (Sx.cell_same (hw _ (by omega)) _).trans h0, (Sx.cell_same (hw _ (by omega)) _).trans h1, (Sx.cell_same (hw _ (by omega)) _).trans h2, (Sx.cell_same (hw _ (by omega)) _).trans p0, (Sx.cell_same (hw _ (by omega)) _).trans p1, (Sx.cell_same (hw _ (by omega)) _).trans r0, (Sx.cell_same (hw _ (by omega)) _).trans r1⟩ :
    w'.cell? ⟨w2.heap.size + 1, 0, none⟩ = some (.int .i64 l) ∧ w'.cell? ⟨w2.heap.size + 1, 1, none⟩ = some (.int .i64 c) ∧ w'.cell? ⟨w2.heap.size + 1, 2, none⟩ = some (.int .i64 k) ∧ w'.cell? ⟨w3.heap.size + 1, 0, none⟩ = some (.int .i64 l) ∧ w'.cell? ⟨w3.heap.size + 1, 1, none⟩ = some (.int .i64 c) ∧ w'.cell? ⟨w3.heap.size + 1, 2, none⟩ = some (.int .i64 k) ∧ w'.cell? ⟨w2.heap.size, 0, none⟩ = some (.string tx) ∧ w'.cell? ⟨w2.heap.size, 1, none⟩ = some (.slice A1 n cp1) ∧ w'.cell? ⟨w3.heap.size, 0, none⟩ = some (.string tx) ∧ w'.cell? ⟨w3.heap.size, 1, none⟩ = some (.slice A2 n cp2)))
  have HP1 := Lib.hid (fun (w' : World) (hz : V.heap.size ≤ w'.heap.size) (hw : ∀ b, b < V.heap.size → w'.heap[b]? = V.heap[b]?) => (((HR1.out.under HB3.out).under hVb).keep (Q := fun _ => True) hz fun q _ hq => ⟨trivial, fun j => Sx.cell_same (hw q hq) j⟩))
  have HP2 := Lib.hid (fun (w' : World) (hz : V.heap.size ≤ w'.heap.size) (hw : ∀ b, b < V.heap.size → w'.heap[b]? = V.heap[b]?) => ((HR2.out.under hVb).keep (Q := fun _ => True) hz fun q _ hq => ⟨trivial, fun j => Sx.cell_same (hw q hq) j⟩))
  have HBV := Lib.hid (HB2.out.trans ((HB3.out.trans (hVb.mono HB3.out.size)).mono HB2.out.size))
  clear hVb hV1 hV2 hg1 hg2 hVs hsz3 HG1 HG2 HKP HKR
  go_region_held3 (fun w' => w'.cell? ⟨w2.heap.size + 1, 0, none⟩ = some (.int .i64 l) ∧ w'.cell? ⟨w2.heap.size + 1, 1, none⟩ = some (.int .i64 c) ∧ w'.cell? ⟨w2.heap.size + 1, 2, none⟩ = some (.int .i64 k) ∧ w'.cell? ⟨w3.heap.size + 1, 0, none⟩ = some (.int .i64 l) ∧ w'.cell? ⟨w3.heap.size + 1, 1, none⟩ = some (.int .i64 c) ∧ w'.cell? ⟨w3.heap.size + 1, 2, none⟩ = some (.int .i64 k) ∧ w'.cell? ⟨w2.heap.size, 0, none⟩ = some (.string tx) ∧ w'.cell? ⟨w2.heap.size, 1, none⟩ = some (.slice A1 n cp1) ∧ w'.cell? ⟨w3.heap.size, 0, none⟩ = some (.string tx) ∧ w'.cell? ⟨w3.heap.size, 1, none⟩ = some (.slice A2 n cp2)) (first | exact ⟨f0, f1, f2, h0, h1, h2, p0, p1, r0, r1⟩ | exact HFR.out _ HQ5.out | exact HFR.out _ HQ6.out | exact HFR.out _ (fun _ _ => rfl)) (first | (go_at_call 8; refine (HKG.out (fun _ => True) _ _ ?_).mono ?_; exact HP1.out _ (Nat.le_refl _) (fun _ _ => rfl); rintro e w5 ⟨v5, rfl, hr5, b5⟩; obtain ⟨A5, cp5, rfl⟩ := hr5.form; have HR5 := Lib.hid hr5; have HQ5 := Lib.hid (fun b (hb : b < V.heap.size) => b5.block b hb); have HZ5 := Lib.hid (show V.heap.size ≤ w5.heap.size from b5.size); have HB5 := Lib.hid (show Below V.heap.size V w5 from ⟨b5.os, b5.tape, b5.output, b5.size, fun k hk => b5.block k hk⟩); clear hr5 b5) | (go_at_call 7; refine (HKS.out (fun q => V.heap.size ≤ q) (fun _ => True) _ _ _ ?_ (HP2.out _ HZ5.out HQ5.out)).mono ?_; exact HR5.out.keep (Nat.le_refl _) (fun q hq _ => ⟨hq, fun _ => rfl⟩); rintro e w6 ⟨rfl, b6⟩; have HQ6 := Lib.hid (fun b (hb : b < V.heap.size) => (b6.block b (Nat.lt_of_lt_of_le hb HZ5.out)).trans (HQ5.out b hb)); have HZ6 := Lib.hid (show V.heap.size ≤ w6.heap.size from Nat.le_trans HZ5.out b6.size); have HB6 := Lib.hid (show Below V.heap.size V w6 from HB5.out.trans ((show Below w5.heap.size w5 w6 from ⟨b6.os, b6.tape, b6.output, b6.size, fun k hk => b6.block k hk⟩).mono HZ5.out)); clear b6))
  all_goals
    obtain ⟨f0, f1, f2, h0, h1, h2, p0, p1, r0, r1⟩ := HFR.out _ HQ6.out
    have HB7 := Lib.hid (HBV.out.trans (HB6.out.mono HBV.out.size))
    rcases HK.out with hk | ⟨hk, hpr⟩
    · have en : ((k : Int) != 0) = true := by rw [bne_iff_ne]; omega
      clear hk
      go_wp2
      go_ret
      exact ⟨rfl, HB7.out⟩
    · have en : ((k : Int) != 0) = false := by rw [bne_eq_false_iff_eq]; omega
      have KQ := HKQ.out (fun _ => True) _ _ (HP1.out _ HZ6.out HQ6.out)
      rw [hpr] at KQ
      have HKQ2 := Lib.hid KQ
      clear hk hpr KQ
      go_wp2_with fail
      refine HKQ2.out.mono ?_
      rintro e w8 ⟨rfl, b8⟩
      have HB8 := Lib.hid (HB7.out.trans (b8.mono HB7.out.size))
      clear b8
      go_wp2
      go_ret
      exact ⟨rfl, HB8.out⟩

set_option maxRecDepth 100000 in
theorem lifted (os : Os) (started : os.Started) (H : Type) (enc : TypeId × Value → H) :
    ReturnsInHanded {} Try.checked os 3 .any (Rows.syntaxParsesSpec.pre6 enc Try.prog Try.f3 Rows.syntaxParsesRow.domain false) (Rows.syntaxParsesSpec.post enc Try.prog Try.f3 false true false false) := by
  refine returnsInHanded_of_change (C := Try.checked) own started (by kernel_rfl) Try.func3
    (ChangeSpec.witness6 (enc := enc) (C := Try.checked) false ⟨#[], #[.string ByteArray.empty], []⟩ 8 (by kernel_rfl) (by kernel_rfl) (by kernel_rfl) (by kernel_rfl)) ?_
  intro W base args ds gs before hval0 hW hcnd _
  have hval : ∀ (j : Nat) t v, Try.f3.params[j]? = some t → args[j]? = some v → Value.okWide Try.prog W .any base t v := hval0
  have hW' := hW
  obtain ⟨p, q, hA0, hV, rfl, hfz, hnd⟩ := hW
  have hA : DataW.TrodAll enc Try.prog W 0 (fun _ => true) true Try.f3.params.toList args.toList ds p := hA0
  rw [Try.params3] at hA hval
  obtain ⟨v0, vs0, d0, ds0, p0, q0, hargs, rfl, rfl, h0, r0⟩ := trodAll_cons hA
  obtain ⟨rfl, rfl, rfl⟩ := trodAll_nil r0
  obtain rfl : args = #[v0] := by cases args; simp_all
  obtain ⟨rfl, rfl⟩ := trodVars_none hV
  obtain ⟨a0, rfl, rfl, rfl, w0⟩ := open_string Try.underlying9 (hval 0 9 v0 rfl rfl) h0
  clear hA0 hval0
  refine (walk a0 w0 W).mono fun e W' ⟨he, bel⟩ => ?_
  subst he
  exact ⟨_, rfl, _, _, _, [], _, [], hW', trodAll_mk1 (shut_bool Try.underlying4 _), (trodAll_cons_mk (shut_string Try.underlying9 w0) trodAll_mk0), rfl, bel.frame _, fun h => by cases h⟩

theorem over : Rows.SyntaxParsesSaid :=
  OpenClaim.holds_of_wide 3 Try.f3 rfl rfl rfl rfl rfl rfl rfl ⟨rfl, rfl, rfl, rfl, rfl⟩ rfl rfl rfl rfl rfl (by kernel_rfl) Try.func3 (by kernel_rfl)
    (of_decide_eq_true (by kernel_rfl)) (by unfold Func.isWrapper; first | (rw [if_pos (by decide +kernel)]; kernel_rfl) | (rw [if_neg (by decide +kernel)]; exact ⟨rfl, rfl⟩))
    (fun os started H enc _ => lifted os started H enc)

theorem proved : Rows.SyntaxParsesSaid := over
#print axioms proved
