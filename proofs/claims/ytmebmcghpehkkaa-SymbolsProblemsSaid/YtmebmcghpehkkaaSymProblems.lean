/-
  SymbolsProblems: of any text of at most 1000 bytes that is a grammar, Check tells the document's problems. For every text; no condition of ours.
-/
import Derived.Test.YtmebmcghpehkkaaSyD
import Derived.Test.YtmebmcghpehkkaaSyE
import Derived.Test.YtmebmcghpehkkaaRows
import Derived.ProofKit
import Derived.OpenShut
import Derived.ShutString
import Derived.ChangeOld
import Derived.BigQuiet
import Derived.Deep.QuietTactic
namespace Go.Proofs.Ytmebmcghpehkkaa.symbolsProblems
open Go.ChangeShapes Go.WideShapes Go.ChangeAt Go.RowKit
open Go.ChangeMaps (open_string shut_string)
open Lx (bs)
open Sx (Gram checkP cellsP RlsAt)
set_option linter.unusedVariables false
set_option linter.unusedSimpArgs false
set_option maxRecDepth 100000

theorem own : ownKnob Try.prog.godebug = none := by kernel_rfl
def tChk (G : Gram) (v : Value) (w : World) : Prop := w.ownsRow 0 48 3 v (checkP G).length (cellsP (checkP G))
def tChQ (G : Gram) (v : Value) (w : World) : Prop := w.ownsRow 0 50 3 v (checkP G).length (cellsP (checkP G))
def tCpy (G : Gram) (v : Value) (w : World) : Prop := ∃ y, v = .agg #[.string (Lx.mk G.start), y] ∧ RlsAt (fun _ => True) w G.rules y
theorem tChk_st (G : Gram) : LooseD.St (tChk G) := fun v w w' h b => Sx.own_under h b
theorem tChQ_st (G : Gram) : LooseD.St (tChQ G) := fun v w w' h b => Sx.own_under h b
theorem tCpy_st (G : Gram) : LooseD.St (tCpy G) := fun v w w' ⟨y, h, hr⟩ b => ⟨y, h, hr.under b⟩

set_option maxHeartbeats 8000000 in
theorem walk (s : ByteArray) (ws : s.size ≤ maxLen) (w : World) :
    Calls Try.prog 4 #[.string s] w fun e w' => e = .returned (.bool true) ∧ Below w.heap.size w w' := by
  clear ws
  go_enter Try.func4, Try.ntmps4
  go_wp2_with fail
  refine (Sx.speaks_true _).mono ?_
  rintro e w1 ⟨rfl, b1⟩
  go_wp2_with fail
  refine (Sx.read_any s w1).mono ?_
  rintro e w2 ⟨x, bq, rfl, b2, hR⟩
  have HB2 := Lib.hid (b1.trans (b2.mono b1.size))
  clear b1 b2
  rcases hR with ⟨rfl, rfl⟩ | ⟨rfl, hsz, G, jj, hP, v, rfl, hr⟩
  · have HB2a := Lib.hid (HB2.out.alloc HB2.out.size (.cells #[.string ⟨#[]⟩, .slice none 0 0] 25))
    go_wp2
    go_ret
    exact ⟨rfl, HB2a.out⟩
  obtain ⟨m1, m2, m3⟩ := Sx.read_small hP (by rw [Lx.bs_len]; omega)
  have hr0 := hr
  obtain ⟨A, cp, rr, fa, fb, fc, rfl, _⟩ := hr0
  have hbb := (Below.refl w2.heap.size w2).alloc (Nat.le_refl _) (.cells #[.string (Lx.mk G.start), .slice A G.rules.length cp] 25)
  have hbx := heap_alloc_new w2 (.cells #[.string (Lx.mk G.start), .slice A G.rules.length cp] 25)
  have HV := Lib.hid (HB2.out.trans (hbb.mono HB2.out.size))
  have HRV := Lib.hid (hr.under hbb)
  have HBX := Lib.hid hbx
  clear hr hbb hbx hP HB2 hsz
  obtain ⟨tx, htx⟩ : ∃ tx, tx = Lx.mk G.start := ⟨_, rfl⟩
  obtain ⟨n, hn⟩ : ∃ n, n = G.rules.length := ⟨_, rfl⟩
  have HTX := Lib.hid htx
  have HNN := Lib.hid hn
  have HM1 := Lib.hid m1
  have HM2 := Lib.hid m2
  have HM3 := Lib.hid m3
  simp only [← htx, ← hn] at HV HRV HBX ⊢
  clear m1 m2 m3 htx hn
  go_wp2_with fail
  generalize hV : World.alloc w2 _ = V
  rw [hV] at HV HRV HBX
  clear hV
  have HKC := Lib.hid (show ∀ w', Below V.heap.size V w' → Calls Try.prog 17 #[.agg #[.string tx, .slice A n cp]] w' fun e w'' => ∃ v, e = .returned v ∧ Below w'.heap.size w' w'' ∧ tChk G v w'' from fun w' bw => by
    rw [HTX.out]
    exact (Sx.check_any G HM2.out HM1.out 65537 (by decide) HM3.out _ w' _ (HRV.out.under bw)).mono fun e w'' ⟨pv, h1, h2, h3⟩ => ⟨pv, h1, h3, Sx.own_mono1 h2 (Nat.zero_le _)⟩)
  have HKG := Lib.hid (show ∀ w', Below V.heap.size V w' → Calls Try.prog 9 #[.agg #[.string tx, .slice A n cp]] w' fun e w'' => ∃ v, e = .returned v ∧ Below w'.heap.size w' w'' ∧ tCpy G v w'' from fun w' bw => by
    rw [HTX.out]
    exact (Sx.gram_copy G.start G.rules (by have := HM2.out; omega) (fun r hr => (HM3.out r hr).2.1) _ w' _ (HRV.out.under bw)).mono fun e w'' ⟨v, h1, h2, h3⟩ => ⟨_, h1, h3, v, rfl, h2.keep (Nat.le_refl _) fun _ _ _ => ⟨trivial, fun _ => rfl⟩⟩)
  have HKQ := Lib.hid (show ∀ w' v, tCpy G v w' → Calls Try.prog 18 #[v] w' fun e w'' => ∃ v, e = .returned v ∧ Below w'.heap.size w' w'' ∧ tChQ G v w'' from fun w' v ⟨y, h, hy⟩ => by
    subst h
    exact (Sx.checkq_any G HM2.out 65537 (by decide) (fun r hr => (HM3.out r hr).2) (fun q => q < w'.heap.size) w' y (hy.keep (Nat.le_refl _) fun q _ hq => ⟨hq, fun _ => rfl⟩) (fun _ h => h)).mono fun e w'' ⟨pv, h1, h2, h3⟩ => ⟨pv, h1, h3, Sx.own_mono1 h2 (Nat.zero_le _)⟩)
  refine LooseD.region_loose (fun w' => Below V.heap.size V w' ∧ w'.heap[w2.heap.size]? = some (.cells #[.string tx, .slice A n cp] 25 (0, 0))) _ _ (by kernel_rfl) (by kernel_rfl)
    (LooseD.waits (D := [[], [], [], [], [3], [], []]) (by kernel_rfl))
    (LooseD.stays (ts := [none, some (.told (tChk G)), none, some (.told (tCpy G)), some (.told (tChQ G)), none, none]) (fun w w' h b => ⟨h.1.trans (b.mono h.1.size), (b.block _ (Gn.heap_lt h.2)).trans h.2⟩) (.none (.told (tChk_st G) (.none (.told (tCpy_st G) (.told (tChQ_st G) (.none (.none .nil))))))))
    ⟨(Below.refl _ _).drew, HBX.out⟩ ?_
  refine LooseD.reads (.agg #[.string tx, .slice A n cp]) rfl rfl ?_ ?_
  · intro w hw
    have y0 := cell_of_row _ _ 0 _ _ (0, 0) hw.2
    have y1 := cell_of_row _ _ 1 _ _ (0, 0) hw.2
    clear hw
    go_simp
  try simp only [Act.put, List.setIfInBounds_toArray, List.set_cons_zero, List.set_cons_succ]
  refine LooseD.calls _ 17 #[.agg #[.string tx, .slice A n cp]] rfl rfl ?_ (fun w hw _ => HKC.out w hw.1) (fun v1 => ?_)
  · intro w hw
    clear hw
    go_simp
  try simp only [Act.put, List.setIfInBounds_toArray, List.set_cons_zero, List.set_cons_succ]
  refine LooseD.reads (.agg #[.string tx, .slice A n cp]) rfl rfl ?_ ?_
  · intro w hw
    have y0 := cell_of_row _ _ 0 _ _ (0, 0) hw.2
    have y1 := cell_of_row _ _ 1 _ _ (0, 0) hw.2
    clear hw
    go_simp
  try simp only [Act.put, List.setIfInBounds_toArray, List.set_cons_zero, List.set_cons_succ]
  refine LooseD.calls _ 9 #[.agg #[.string tx, .slice A n cp]] rfl rfl ?_ (fun w hw _ => HKG.out w hw.1) (fun v3 => ?_)
  · intro w hw
    clear hw
    go_simp
  try simp only [Act.put, List.setIfInBounds_toArray, List.set_cons_zero, List.set_cons_succ]
  refine LooseD.calls _ 18 #[v3] rfl rfl ?_ (fun w hw hH => HKQ.out w v3 (hH 3 (by decide) v3 _ rfl rfl)) (fun v4 => ?_)
  · intro w hw
    clear hw
    go_simp
  try simp only [Act.put, List.setIfInBounds_toArray, List.set_cons_zero, List.set_cons_succ]
  refine LooseD.reads (v1) rfl rfl ?_ ?_
  · intro w hw
    clear hw
    go_simp
  try simp only [Act.put, List.setIfInBounds_toArray, List.set_cons_zero, List.set_cons_succ]
  refine LooseD.reads (v4) rfl rfl ?_ ?_
  · intro w hw
    clear hw
    go_simp
  try simp only [Act.put, List.setIfInBounds_toArray, List.set_cons_zero, List.set_cons_succ]
  refine LooseD.done ?_
  intro w7 hw7 hF
  have h1 : tChk G v1 w7 := hF 1 v1 _ rfl rfl
  have h4 : tChQ G v4 w7 := hF 4 v4 _ rfl rfl
  unfold tChk at h1
  unfold tChQ at h4
  have HB7 := Lib.hid (HV.out.trans (hw7.1.mono HV.out.size))
  clear hw7 hF HKC HKG HKQ
  obtain ⟨ps, hps⟩ : ∃ ps, ps = checkP G := ⟨_, rfl⟩
  rw [← hps] at h1 h4
  have hpl : ps.length ≤ 1073742849 := by
    rw [hps]
    have h5 := Sx.rulesGo_len G.rules 65537 G.rules 0 (fun r hr => (HM3.out r hr).2.2)
    have h6 := Nat.mul_le_mul_right (65537 + 1) HM2.out
    unfold checkP
    rw [List.length_append]
    split
    · simp; omega
    · simp; omega
  obtain ⟨A1, c1, rfl⟩ := Gn.slice_of h1
  obtain ⟨A4, c4, rfl⟩ := Gn.slice_of h4
  have HL1 := Lib.hid (Gn.own_lt h1)
  obtain ⟨N, hN⟩ : ∃ N, N = ps.length := ⟨_, rfl⟩
  rw [← hN] at hpl h1 h4 ⊢
  have HNP := Lib.hid hN
  have H1 := Lib.hid h1
  have H4 := Lib.hid h4
  have en : ((N : Int) != (N : Int)) = false := by rw [bne_self_eq_false]
  clear hps hN h1 h4
  go_wp2_with fail
  go_loopw [7] (fun i wr => ∃ j : Nat, j ≤ N ∧ i = .int .i64 j ∧ Below w7.heap.size w7 wr) (fun i _ => N - (intOf i).toNat)
  case atStart => exact ⟨0, Nat.zero_le _, rfl, Below.refl _ _⟩
  case round =>
    obtain ⟨j, hj, rfl, hb⟩ := hrel
    have HB := Lib.hid hb
    by_cases hlt : j < N
    · have hlt2 : (j : Int) < (N : Int) := by omega
      have hjl : j < ps.length := by rw [← HNP.out]; exact hlt
      have k1 := Sx.own_under H1.out hb
      have k4 := Sx.own_under H4.out hb
      obtain ⟨g1, d1, e1⟩ := Sx.row_some k1 (by omega)
      obtain ⟨g4, d4, e4⟩ := Sx.row_some k4 (by omega)
      injection e1 with e1 _ e1'
      injection e4 with e4 _ e4'
      subst e1 e1' e4 e4'
      obtain ⟨t0, t1, t2⟩ := Sx.cellsP_at ps j hjl
      have x0 := (World.ownsRow.cellAt k1 (j * 3) (by omega)).trans t0
      have x1 := (World.ownsRow.cellAt k1 (j * 3 + 1) (by omega)).trans t1
      have x2 := (World.ownsRow.cellAt k1 (j * 3 + 2) (by omega)).trans t2
      have y0 := (World.ownsRow.cellAt k4 (j * 3) (by omega)).trans t0
      have y1 := (World.ownsRow.cellAt k4 (j * 3 + 1) (by omega)).trans t1
      have y2 := (World.ownsRow.cellAt k4 (j * 3 + 2) (by omega)).trans t2
      obtain ⟨p0, hp0⟩ : ∃ p0, p0 = ps[j].1 := ⟨_, rfl⟩
      obtain ⟨p1, hp1⟩ : ∃ p1, p1 = ps[j].2.1 := ⟨_, rfl⟩
      obtain ⟨p2, hp2⟩ : ∃ p2, p2 = Lx.mk ps[j].2.2 := ⟨_, rfl⟩
      rw [← hp0] at x0 y0
      rw [← hp1] at x1 y1
      rw [← hp2] at x2 y2
      clear t0 t1 t2 k1 k4 hp0 hp1 hp2 hb
      go_wp2_with fail
      go_quiet (fail)
      go_wp2
      go_roundw
      case rel => exact ⟨j + 1, by omega, by simp, Gn.below_drewN HB.out _⟩
      case measure => simp [intOf]; omega
    · have hlt2 : ¬ (j : Int) < (N : Int) := by omega
      have HB8 := Lib.hid (HB7.out.trans (hb.mono HB7.out.size))
      clear hb
      go_wp2
      go_ret
      exact ⟨rfl, HB8.out⟩

set_option maxRecDepth 100000 in
theorem lifted (os : Os) (started : os.Started) (H : Type) (enc : TypeId × Value → H) :
    ReturnsInHanded {} Try.checked os 4 .any (Rows.symbolsProblemsSpec.pre6 enc Try.prog Try.f4 Rows.symbolsProblemsRow.domain false) (Rows.symbolsProblemsSpec.post enc Try.prog Try.f4 false true false false) := by
  refine returnsInHanded_of_change (C := Try.checked) own started (by kernel_rfl) Try.func4
    (ChangeSpec.witness6 (enc := enc) (C := Try.checked) false ⟨#[], #[.string ByteArray.empty], []⟩ 8 (by kernel_rfl) (by kernel_rfl) (by kernel_rfl) (by kernel_rfl)) ?_
  intro W base args ds gs before hval0 hW hcnd _
  have hval : ∀ (j : Nat) t v, Try.f4.params[j]? = some t → args[j]? = some v → Value.okWide Try.prog W .any base t v := hval0
  have hW' := hW
  obtain ⟨p, q, hA0, hV, rfl, hfz, hnd⟩ := hW
  have hA : DataW.TrodAll enc Try.prog W 0 (fun _ => true) true Try.f4.params.toList args.toList ds p := hA0
  rw [Try.params4] at hA hval
  obtain ⟨v0, vs0, d0, ds0, p0, q0, hargs, rfl, rfl, h0, r0⟩ := trodAll_cons hA
  obtain ⟨rfl, rfl, rfl⟩ := trodAll_nil r0
  obtain rfl : args = #[v0] := by cases args; simp_all
  obtain ⟨rfl, rfl⟩ := trodVars_none hV
  obtain ⟨a0, rfl, rfl, rfl, w0⟩ := open_string Try.underlying9 (hval 0 9 v0 rfl rfl) h0
  clear hA0 hval0
  refine (walk a0 w0 W).mono fun e W' ⟨he, bel⟩ => ?_
  subst he
  exact ⟨_, rfl, _, _, _, [], _, [], hW', trodAll_mk1 (shut_bool Try.underlying4 _), (trodAll_cons_mk (shut_string Try.underlying9 w0) trodAll_mk0), rfl, bel.frame _, fun h => by cases h⟩

theorem over : Rows.SymbolsProblemsSaid :=
  OpenClaim.holds_of_wide 4 Try.f4 rfl rfl rfl rfl rfl rfl rfl ⟨rfl, rfl, rfl, rfl, rfl⟩ rfl rfl rfl rfl rfl (by kernel_rfl) Try.func4 (by kernel_rfl)
    (of_decide_eq_true (by kernel_rfl)) (by unfold Func.isWrapper; first | (rw [if_pos (by decide +kernel)]; kernel_rfl) | (rw [if_neg (by decide +kernel)]; exact ⟨rfl, rfl⟩))
    (fun os started H enc _ => lifted os started H enc)

theorem proved : Rows.SymbolsProblemsSaid := over
#print axioms proved

