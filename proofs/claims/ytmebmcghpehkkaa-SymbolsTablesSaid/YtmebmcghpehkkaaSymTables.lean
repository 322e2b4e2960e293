/-
  SymbolsTables: of any text of at most 1000 bytes that is a grammar, Table and Terminals tell what the document's do. For every text; no condition of ours.
-/
import Derived.Test.YtmebmcghpehkkaaSyD
import Derived.Test.YtmebmcghpehkkaaSyE
import Derived.Test.YtmebmcghpehkkaaSyF
import Derived.Test.YtmebmcghpehkkaaRows
import Derived.ProofKit
import Derived.OpenShut
import Derived.ShutString
import Derived.ChangeOld
import Derived.BigQuiet
import Derived.Deep.QuietTactic
namespace Go.Proofs.Ytmebmcghpehkkaa.symbolsTables
open Go.ChangeShapes Go.WideShapes Go.ChangeAt Go.RowKit
open Go.ChangeMaps (open_string shut_string)
open Lx (bs)
open Sx (Gram RlsAt tableP cellsS onceP namesR refsR litsR usN firstP strV)
set_option linter.unusedVariables false
set_option linter.unusedSimpArgs false
set_option maxRecDepth 100000

theorem own : ownKnob Try.prog.godebug = none := by kernel_rfl
def tTab (G : Gram) (v : Value) (w : World) : Prop := w.ownsRow 0 39 3 v (tableP G.rules).length (cellsS (tableP G.rules))
def tNms (l : List Sx.Nam) (v : Value) (w : World) : Prop := w.ownsRow 0 9 1 v l.length (l.map strV)
theorem tTab_st (G : Gram) : LooseD.St (tTab G) := fun v w w' h b => Sx.own_under h b
theorem tNms_st (l : List Sx.Nam) : LooseD.St (tNms l) := fun v w w' h b => Sx.own_under h b
theorem cells3 : ∀ (T : List Sx.Sy) (i : Nat) (h : i < T.length), (cellsS T)[i * 3]? = some (.string (Lx.mk T[i].1)) ∧ (cellsS T)[i * 3 + 1]? = some (.int .i64 T[i].2.1) ∧ (cellsS T)[i * 3 + 2]? = some (.int .i64 (T[i].2.2 : Int))
  | a :: r, 0, _ => ⟨rfl, rfl, rfl⟩
  | a :: r, i + 1, h => by
    obtain ⟨h1, h2, h3⟩ := cells3 r i (by simpa using h)
    have e : ∀ k, k < 3 → (cellsS (a :: r))[(i + 1) * 3 + k]? = (cellsS r)[i * 3 + k]? := fun k hk => by
      rw [show cellsS (a :: r) = Sx.syV a ++ cellsS r from rfl, List.getElem?_append_right (by rw [Sx.syV_len]; omega), Sx.syV_len, show (i + 1) * 3 + k - 3 = i * 3 + k by omega]
    exact ⟨(e 0 (by decide)).trans h1, (e 1 (by decide)).trans h2, (e 2 (by decide)).trans h3⟩

set_option maxHeartbeats 8000000 in
theorem walk (s : ByteArray) (ws : s.size ≤ maxLen) (w : World) :
    Calls Try.prog 3 #[.string s] w fun e w' => e = .returned (.bool true) ∧ Below w.heap.size w w' := by
  clear ws
  go_enter Try.func3, Try.ntmps3
  go_wp2_with fail
  refine (Sx.speaks_true _).mono ?_
  rintro e w1 ⟨rfl, b1⟩
  go_wp2_with fail
  refine (Sx.read_any s w1).mono ?_
  rintro e w2 ⟨x, bq, rfl, b2, hR⟩
  have HB2 := Lib.hid (b1.trans (b2.mono b1.size))
  clear b1 b2
  rcases hR with ⟨rfl, rfl⟩ | ⟨rfl, hsz, G, jj, hP, v, rfl, hr⟩
  · have HB2a := Lib.hid (HB2.out.alloc HB2.out.size (.cells #[.string ⟨#[]⟩, .slice none 0 0] 25))
    go_wp2
    go_ret
    exact ⟨rfl, HB2a.out⟩
  obtain ⟨m1, m2, m3⟩ := Sx.read_small hP (by rw [Lx.bs_len]; omega)
  have HLF := Lib.hid (Sx.read_leaf hP (by rw [Lx.bs_len]; omega))
  have hr0 := hr
  obtain ⟨A, cp, rr, fa, fb, fc, rfl, _⟩ := hr0
  have hbb := (Below.refl w2.heap.size w2).alloc (Nat.le_refl _) (.cells #[.string (Lx.mk G.start), .slice A G.rules.length cp] 25)
  have hbx := heap_alloc_new w2 (.cells #[.string (Lx.mk G.start), .slice A G.rules.length cp] 25)
  have HV := Lib.hid (HB2.out.trans (hbb.mono HB2.out.size))
  have HRV := Lib.hid (hr.under hbb)
  have HBX := Lib.hid hbx
  clear hr hbb hbx hP HB2 hsz
  obtain ⟨tx, htx⟩ : ∃ tx, tx = Lx.mk G.start := ⟨_, rfl⟩
  obtain ⟨n, hn⟩ : ∃ n, n = G.rules.length := ⟨_, rfl⟩
  have HTX := Lib.hid htx
  have HNN := Lib.hid hn
  have HM1 := Lib.hid m1
  have HM2 := Lib.hid m2
  have HM3 := Lib.hid m3
  simp only [← htx, ← hn] at HV HRV HBX ⊢
  clear m1 m2 m3 htx hn
  go_wp2_with fail
  generalize hV : World.alloc w2 _ = V
  rw [hV] at HV HRV HBX
  clear hV
  have HKG := Lib.hid (Sx.gram_copy G.start G.rules (by have := HM2.out; omega) (fun r hr => (HM3.out r hr).2.1) _ V _ HRV.out)
  rw [← HTX.out] at HKG
  have y0 := cell_of_row _ _ 0 _ _ (0, 0) HBX.out
  have y1 := cell_of_row _ _ 1 _ _ (0, 0) HBX.out
  go_wp2_with fail
  refine HKG.out.mono ?_
  rintro e w3 ⟨v3, rfl, hr3, b3⟩
  have hr30 := hr3
  obtain ⟨A2, c2, rr2, fa2, fb2, fc2, rfl, _⟩ := hr30
  have hbb3 := (Below.refl w3.heap.size w3).alloc (Nat.le_refl _) (.cells #[.string tx, .slice A2 G.rules.length c2] 30)
  have HX2 := Lib.hid (heap_alloc_new w3 (.cells #[.string tx, .slice A2 G.rules.length c2] 30))
  have hV3 := b3.trans (hbb3.mono b3.size)
  have HX1 := Lib.hid ((hV3.block _ (Gn.heap_lt HBX.out)).trans HBX.out)
  have HR1 := Lib.hid (HRV.out.under hV3)
  have HR2 := Lib.hid (hr3.under hbb3)
  have HBV := Lib.hid (HV.out.trans (hV3.mono HV.out.size))
  clear hr3 b3 hbb3 hV3 HKG y0 y1 HRV HBX HV
  simp only [← HNN.out] at HX1 HX2 HR1 HR2 HBV ⊢
  go_wp2_with fail
  generalize hV2 : World.alloc w3 _ = V2
  rw [hV2] at HX1 HX2 HR1 HR2 HBV
  clear hV2
  have HKT := Lib.hid (show ∀ w', Below V2.heap.size V2 w' → Calls Try.prog 10 #[.agg #[.string tx, .slice A n cp]] w' fun e w'' => ∃ v, e = .returned v ∧ Below w'.heap.size w' w'' ∧ tTab G v w'' from fun w' bw => by
    rw [HTX.out]
    exact (Sx.table_any G HM2.out 65537 (by decide) HM3.out _ w' _ (HR1.out.under bw)).mono fun e w'' ⟨pv, h1, h2, h3⟩ => ⟨pv, h1, h3, Sx.own_mono1 h2 (Nat.zero_le _)⟩)
  have HKN := Lib.hid (show ∀ w', Below V2.heap.size V2 w' → Calls Try.prog 11 #[.agg #[.string tx, .slice A2 n c2]] w' fun e w'' => ∃ v, e = .returned v ∧ Below w'.heap.size w' w'' ∧ tNms (onceP (namesR G.rules G.rules)) v w'' from fun w' bw => by
    rw [HTX.out]
    exact (Sx.namesq_any G HM2.out 65537 (by decide) (fun r hr => (HM3.out r hr).2) _ w' _ (HR2.out.under bw)).mono fun e w'' ⟨pv, h1, h2, h3⟩ => ⟨pv, h1, h3, Sx.own_mono1 h2 (Nat.zero_le _)⟩)
  have HKA := Lib.hid (show ∀ w', Below V2.heap.size V2 w' → Calls Try.prog 13 #[.agg #[.string tx, .slice A n cp]] w' fun e w'' => ∃ v, e = .returned v ∧ Below w'.heap.size w' w'' ∧ tNms (onceP (litsR G.rules)) v w'' from fun w' bw => by
    rw [HTX.out]
    exact (Sx.terms_any G HM2.out 65537 (by decide) HLF.out _ w' _ (HR1.out.under bw)).mono fun e w'' ⟨pv, h1, h2, h3⟩ => ⟨pv, h1, h3, Sx.own_mono1 h2 (Nat.zero_le _)⟩)
  have HKB := Lib.hid (show ∀ w', Below V2.heap.size V2 w' → Calls Try.prog 14 #[.agg #[.string tx, .slice A2 n c2]] w' fun e w'' => ∃ v, e = .returned v ∧ Below w'.heap.size w' w'' ∧ tNms (onceP (litsR G.rules)) v w'' from fun w' bw => by
    rw [HTX.out]
    exact (Sx.termsq_any G HM2.out 65537 (by decide) HLF.out _ w' _ (HR2.out.under bw)).mono fun e w'' ⟨pv, h1, h2, h3⟩ => ⟨pv, h1, h3, Sx.own_mono1 h2 (Nat.zero_le _)⟩)
  have HKF := Lib.hid (show ∀ (q : Sx.Nam) w', Below V2.heap.size V2 w' → Calls Try.prog 15 #[.agg #[.string tx, .slice A2 n c2], .string (Lx.mk q)] w' fun e w'' => e = .returned (.int .i64 (firstP G.rules q)) ∧ Below w'.heap.size w' w'' from fun q w' bw =>
    Sx.first_any G.rules (by have := HM2.out; omega) tx q (fun q => q < w'.heap.size) w' _ ((HR2.out.under bw).keep (Nat.le_refl _) fun q _ hq => ⟨hq, fun _ => rfl⟩) (fun _ h => h))
  have HKU := Lib.hid (show ∀ (q : Sx.Nam) w', Below V2.heap.size V2 w' → Calls Try.prog 16 #[.agg #[.string tx, .slice A2 n c2], .string (Lx.mk q)] w' fun e w'' => e = .returned (.int .i64 (usN (refsR G.rules) q)) ∧ Below w'.heap.size w' w'' from fun q w' bw => by
    rw [HTX.out]
    exact Sx.uses_any G q HM2.out 65537 (by decide) (fun r hr => (HM3.out r hr).2) _ w' _ (HR2.out.under bw))
  refine LooseD.region_loose (fun w' => Below V2.heap.size V2 w' ∧ w'.heap[w2.heap.size]? = some (.cells #[.string tx, .slice A n cp] 25 (0, 0)) ∧ w'.heap[w3.heap.size]? = some (.cells #[.string tx, .slice A2 n c2] 30 (0, 0))) _ _ (by kernel_rfl) (by kernel_rfl)
    (LooseD.waits (D := [[], [], [], [], [], []]) (by kernel_rfl))
    (LooseD.stays (ts := [none, some (.told (tTab G)), none, some (.told (tNms (onceP (namesR G.rules G.rules)))), none, none]) (fun w w' h b => ⟨h.1.trans (b.mono h.1.size), (b.block _ (Gn.heap_lt h.2.1)).trans h.2.1, (b.block _ (Gn.heap_lt h.2.2)).trans h.2.2⟩) (.none (.told (tTab_st G) (.none (.told (tNms_st _) (.none (.none .nil)))))))
    ⟨(Below.refl _ _).drew, HX1.out, HX2.out⟩ ?_
  refine LooseD.reads (.agg #[.string tx, .slice A n cp]) rfl rfl ?_ ?_
  · intro w hw
    have y0 := cell_of_row _ _ 0 _ _ (0, 0) hw.2.1
    have y1 := cell_of_row _ _ 1 _ _ (0, 0) hw.2.1
    clear hw
    go_simp
  try simp only [Act.put, List.setIfInBounds_toArray, List.set_cons_zero, List.set_cons_succ]
  refine LooseD.calls _ 10 #[.agg #[.string tx, .slice A n cp]] rfl rfl ?_ (fun w hw _ => HKT.out w hw.1) (fun v1 => ?_)
  · intro w hw
    clear hw
    go_simp
  try simp only [Act.put, List.setIfInBounds_toArray, List.set_cons_zero, List.set_cons_succ]
  refine LooseD.reads (.agg #[.string tx, .slice A2 n c2]) rfl rfl ?_ ?_
  · intro w hw
    have y0 := cell_of_row _ _ 0 _ _ (0, 0) hw.2.2
    have y1 := cell_of_row _ _ 1 _ _ (0, 0) hw.2.2
    clear hw
    go_simp
  try simp only [Act.put, List.setIfInBounds_toArray, List.set_cons_zero, List.set_cons_succ]
  refine LooseD.calls _ 11 #[.agg #[.string tx, .slice A2 n c2]] rfl rfl ?_ (fun w hw _ => HKN.out w hw.1) (fun v3 => ?_)
  · intro w hw
    clear hw
    go_simp
  try simp only [Act.put, List.setIfInBounds_toArray, List.set_cons_zero, List.set_cons_succ]
  refine LooseD.reads (v1) rfl rfl ?_ ?_
  · intro w hw
    clear hw
    go_simp
  try simp only [Act.put, List.setIfInBounds_toArray, List.set_cons_zero, List.set_cons_succ]
  refine LooseD.reads (v3) rfl rfl ?_ ?_
  · intro w hw
    clear hw
    go_simp
  try simp only [Act.put, List.setIfInBounds_toArray, List.set_cons_zero, List.set_cons_succ]
  refine LooseD.done ?_
  intro w7 hw7 hF
  have h1 : tTab G v1 w7 := hF 1 v1 _ rfl rfl
  have h3 : tNms (onceP (namesR G.rules G.rules)) v3 w7 := hF 3 v3 _ rfl rfl
  unfold tTab at h1
  unfold tNms at h3
  have HTI := Lib.hid (Sx.table_is G.rules)
  obtain ⟨L, hL⟩ : ∃ L, L = onceP (namesR G.rules G.rules) := ⟨_, rfl⟩
  rw [Sx.table_is, ← hL] at h1
  rw [← hL] at h3
  have hll : (Sx.tabF G.rules (refsR G.rules) L).length = L.length := by simp [Sx.tabF]
  rw [hll] at h1
  have hpl : L.length ≤ 1073742849 := by
    rw [hL]
    have h4 := Sx.onceP_le (namesR G.rules G.rules)
    have h5 := Sx.namesR_len G.rules 65537 G.rules (fun r hr => (HM3.out r hr).2.2)
    have h6 := Nat.mul_le_mul_right 65537 HM2.out
    have := HM2.out
    omega
  obtain ⟨A1, d1, rfl⟩ := Gn.slice_of h1
  obtain ⟨A3, d3, rfl⟩ := Gn.slice_of h3
  have HL1 := Lib.hid (Gn.own_lt h1)
  have HL3 := Lib.hid (Gn.own_lt h3)
  obtain ⟨N, hN⟩ : ∃ N, N = L.length := ⟨_, rfl⟩
  rw [← hN] at hpl h1 h3 hll HL1 HL3 ⊢
  have HNP := Lib.hid hN
  have HLEN := Lib.hid hll
  have H1 := Lib.hid h1
  have H3 := Lib.hid h3
  have HB7 := Lib.hid hw7
  have en : ((N : Int) != (N : Int)) = false := by rw [bne_self_eq_false]
  clear hL hN h1 h3 hw7 hF hll HKT HKN HTI
  go_wp2_with fail
  refine LooseD.region_loose (fun w' => Below w7.heap.size w7 w' ∧ w'.heap[w2.heap.size]? = some (.cells #[.string tx, .slice A n cp] 25 (0, 0)) ∧ w'.heap[w3.heap.size]? = some (.cells #[.string tx, .slice A2 n c2] 30 (0, 0))) _ _ (by kernel_rfl) (by kernel_rfl)
    (LooseD.waits (D := [[], [], [], [], [], [], [], [], [], [], [7, 9], [], []]) (by kernel_rfl))
    (LooseD.stays (ts := [none, none, none, none, none, none, none, some (.told (tNms (onceP (litsR G.rules)))), none, some (.told (tNms (onceP (litsR G.rules)))), some (.is (.bool true)), none, none]) (fun w w' h b => ⟨h.1.trans (b.mono h.1.size), (b.block _ (Gn.heap_lt h.2.1)).trans h.2.1, (b.block _ (Gn.heap_lt h.2.2)).trans h.2.2⟩) (.none (.none (.none (.none (.none (.none (.none (.told (tNms_st _) (.none (.told (tNms_st _) (.is (.none (.none .nil))))))))))))))
    ⟨(Below.refl _ _).drew, HB7.out.2.1, HB7.out.2.2⟩ ?_
  refine LooseD.reads (.slice A1 N d1) rfl rfl ?_ ?_
  · intro w hw
    clear hw
    go_simp
  try simp only [Act.put, List.setIfInBounds_toArray, List.set_cons_zero, List.set_cons_succ]
  refine LooseD.reads (.int .i64 N) rfl rfl ?_ ?_
  · intro w hw
    clear hw
    go_simp
  try simp only [Act.put, List.setIfInBounds_toArray, List.set_cons_zero, List.set_cons_succ]
  refine LooseD.reads (.slice A3 N d3) rfl rfl ?_ ?_
  · intro w hw
    clear hw
    go_simp
  try simp only [Act.put, List.setIfInBounds_toArray, List.set_cons_zero, List.set_cons_succ]
  refine LooseD.reads (.int .i64 N) rfl rfl ?_ ?_
  · intro w hw
    clear hw
    go_simp
  try simp only [Act.put, List.setIfInBounds_toArray, List.set_cons_zero, List.set_cons_succ]
  refine LooseD.reads (.bool false) rfl rfl ?_ ?_
  · intro w hw
    clear hw
    go_simp
  try simp only [Act.put, List.setIfInBounds_toArray, List.set_cons_zero, List.set_cons_succ]
  refine LooseD.reads (.bool false) rfl rfl ?_ ?_
  · intro w hw
    clear hw
    go_simp
  try simp only [Act.put, List.setIfInBounds_toArray, List.set_cons_zero, List.set_cons_succ]
  refine LooseD.reads (.agg #[.string tx, .slice A n cp]) rfl rfl ?_ ?_
  · intro w hw
    have y0 := cell_of_row _ _ 0 _ _ (0, 0) hw.2.1
    have y1 := cell_of_row _ _ 1 _ _ (0, 0) hw.2.1
    clear hw
    go_simp
  try simp only [Act.put, List.setIfInBounds_toArray, List.set_cons_zero, List.set_cons_succ]
  refine LooseD.calls _ 13 #[.agg #[.string tx, .slice A n cp]] rfl rfl ?_ (fun w hw _ => HKA.out w (HB7.out.1.trans (hw.1.mono HB7.out.1.size))) (fun v7 => ?_)
  · intro w hw
    clear hw
    go_simp
  try simp only [Act.put, List.setIfInBounds_toArray, List.set_cons_zero, List.set_cons_succ]
  refine LooseD.reads (.agg #[.string tx, .slice A2 n c2]) rfl rfl ?_ ?_
  · intro w hw
    have y0 := cell_of_row _ _ 0 _ _ (0, 0) hw.2.2
    have y1 := cell_of_row _ _ 1 _ _ (0, 0) hw.2.2
    clear hw
    go_simp
  try simp only [Act.put, List.setIfInBounds_toArray, List.set_cons_zero, List.set_cons_succ]
  refine LooseD.calls _ 14 #[.agg #[.string tx, .slice A2 n c2]] rfl rfl ?_ (fun w hw _ => HKB.out w (HB7.out.1.trans (hw.1.mono HB7.out.1.size))) (fun v9 => ?_)
  · intro w hw
    clear hw
    go_simp
  try simp only [Act.put, List.setIfInBounds_toArray, List.set_cons_zero, List.set_cons_succ]
  refine LooseD.gives (.bool true) 12 #[v7, v9] rfl rfl ?_ (fun w hw hH => by
    have k7 : tNms (onceP (litsR G.rules)) v7 w := hH 7 (by decide) v7 _ rfl rfl
    have k9 : tNms (onceP (litsR G.rules)) v9 w := hH 9 (by decide) v9 _ rfl rfl
    exact Sx.texts_any _ (by
      have h4 := Sx.onceP_le (litsR G.rules)
      have h5 := Sx.litsR_len 65537 G.rules (fun r hr => (HLF.out r hr).2)
      have h6 := Nat.mul_le_mul_right 65537 HM2.out
      omega) w _ _ (Sx.NmsAt.of_own rfl k7) (Sx.NmsAt.of_own rfl k9)) ?_
  · intro w hw
    clear hw
    go_simp
  try simp only [Act.put, List.setIfInBounds_toArray, List.set_cons_zero, List.set_cons_succ]
  refine LooseD.reads (.bool false) rfl rfl ?_ ?_
  · intro w hw
    clear hw
    go_simp
  try simp only [Act.put, List.setIfInBounds_toArray, List.set_cons_zero, List.set_cons_succ]
  refine LooseD.reads (.bool false) rfl rfl ?_ ?_
  · intro w hw
    clear hw
    go_simp
  try simp only [Act.put, List.setIfInBounds_toArray, List.set_cons_zero, List.set_cons_succ]
  refine LooseD.done ?_
  intro w8 hw8 _
  have HB8 := Lib.hid (⟨HB7.out.1.trans (hw8.1.mono HB7.out.1.size), hw8.2⟩ : Below V2.heap.size V2 w8 ∧ _)
  have HD8 := Lib.hid hw8.1
  clear hw8 HKA HKB
  go_wp2_with fail
  go_loopw [8] (fun i wr => ∃ j : Nat, j ≤ N ∧ i = .int .i64 j ∧ Below w8.heap.size w8 wr) (fun i _ => N - (intOf i).toNat)
  case atStart => exact ⟨0, Nat.zero_le _, rfl, Below.refl _ _⟩
  case round =>
    obtain ⟨j, hj, rfl, hb⟩ := hrel
    have HB := Lib.hid hb
    by_cases hlt : j < N
    · have hlt2 : (j : Int) < (N : Int) := by omega
      have hjl : j < L.length := by rw [← HNP.out]; exact hlt
      have k1 := Sx.own_under (Sx.own_under H1.out HD8.out) hb
      have k3 := Sx.own_under (Sx.own_under H3.out HD8.out) hb
      obtain ⟨g1, e1v, e1⟩ := Sx.row_some k1 (by omega)
      obtain ⟨g3, e3v, e3⟩ := Sx.row_some k3 (by omega)
      injection e1 with e1 _ e1'
      injection e3 with e3 _ e3'
      subst e1 e1' e3 e3'
      obtain ⟨t0, t1, t2⟩ := cells3 (Sx.tabF G.rules (refsR G.rules) L) j (by rw [HLEN.out]; exact hlt)
      have hT : (Sx.tabF G.rules (refsR G.rules) L)[j]'(by rw [HLEN.out]; exact hlt) = (L[j], firstP G.rules L[j], usN (refsR G.rules) L[j]) := by simp [Sx.tabF]
      rw [hT] at t0 t1 t2
      have x0 := (World.ownsRow.cellAt k1 (j * 3) (by omega)).trans t0
      have x1 := (World.ownsRow.cellAt k1 (j * 3 + 1) (by omega)).trans t1
      have x2 := (World.ownsRow.cellAt k1 (j * 3 + 2) (by omega)).trans t2
      have y0 := (World.ownsRow.cellAt k3 j (by omega)).trans (show (L.map strV)[j]? = some (.string (Lx.mk L[j])) by rw [List.getElem?_map, List.getElem?_eq_getElem hjl]; rfl)
      have hg1 := Gn.own_lt k1 g1 rfl
      have hg3 := Gn.own_lt k3 g3 rfl
      have HX := Lib.hid (show ∀ w', Below wr.heap.size wr w' → w'.cell? ⟨g1, j * 3, none⟩ = some (.string (Lx.mk L[j])) ∧ w'.cell? ⟨g1, j * 3 + 1, none⟩ = some (.int .i64 (firstP G.rules L[j])) ∧ w'.cell? ⟨g1, j * 3 + 2, none⟩ = some (.int .i64 (usN (refsR G.rules) L[j] : Int)) ∧ w'.cell? ⟨g3, j, none⟩ = some (.string (Lx.mk L[j])) from fun w' bw =>
        ⟨(bw.cell (p := ⟨g1, j * 3, none⟩) hg1).trans x0, (bw.cell (p := ⟨g1, j * 3 + 1, none⟩) hg1).trans x1, (bw.cell (p := ⟨g1, j * 3 + 2, none⟩) hg1).trans x2, (bw.cell (p := ⟨g3, j, none⟩) hg3).trans y0⟩)
      have HW := Lib.hid (⟨HB8.out.1.trans (hb.mono HB8.out.1.size), (hb.block _ (Gn.heap_lt HB8.out.2.1)).trans HB8.out.2.1, (hb.block _ (Gn.heap_lt HB8.out.2.2)).trans HB8.out.2.2⟩ : Below V2.heap.size V2 wr ∧ wr.heap[w2.heap.size]? = some (.cells #[.string tx, .slice A n cp] 25 (0, 0)) ∧ wr.heap[w3.heap.size]? = some (.cells #[.string tx, .slice A2 n c2] 30 (0, 0)))
      have HFq := Lib.hid (HKF.out L[j])
      have HUq := Lib.hid (HKU.out L[j])
      obtain ⟨sm, hsm⟩ : ∃ sm, sm = Lx.mk L[j] := ⟨_, rfl⟩
      obtain ⟨fi, hfi⟩ : ∃ fi, fi = firstP G.rules L[j] := ⟨_, rfl⟩
      obtain ⟨us, hus⟩ : ∃ us, us = usN (refsR G.rules) L[j] := ⟨_, rfl⟩
      rw [← hsm, ← hfi, ← hus] at HX
      rw [← hsm, ← hfi] at HFq
      rw [← hsm, ← hus] at HUq
      clear t0 t1 t2 hT k1 k3 x0 x1 x2 y0 hg1 hg3 hsm hfi hus hb
      go_wp2_with fail
      refine LooseD.region_loose (fun w' => Below wr.heap.size wr w' ∧ w'.heap[w2.heap.size]? = some (.cells #[.string tx, .slice A n cp] 25 (0, 0)) ∧ w'.heap[w3.heap.size]? = some (.cells #[.string tx, .slice A2 n c2] 30 (0, 0))) _ _ (by kernel_rfl) (by kernel_rfl)
        (LooseD.waits (D := [[], [], [], [], [], [], [], [], [], [], [], [], [], [], [], [], [], [], [], [], [], []]) (by kernel_rfl))
        (LooseD.stays (ts := [none, none, none, none, none, none, none, none, none, none, none, none, none, some (.is (.int .i64 fi)), none, none, none, none, none, some (.is (.int .i64 us)), none, none]) (fun w w' h b => ⟨h.1.trans (b.mono h.1.size), (b.block _ (Gn.heap_lt h.2.1)).trans h.2.1, (b.block _ (Gn.heap_lt h.2.2)).trans h.2.2⟩) (.none (.none (.none (.none (.none (.none (.none (.none (.none (.none (.none (.none (.none (.is (.none (.none (.none (.none (.none (.is (.none (.none .nil)))))))))))))))))))))))
        ⟨(Below.refl _ _).drew, HW.out.2.1, HW.out.2.2⟩ ?_
      refine LooseD.reads (.slice (some ⟨g1, 0, none⟩) N d1) rfl rfl ?_ ?_
      · intro w hw
        clear hw
        go_simp
      try simp only [Act.put, List.setIfInBounds_toArray, List.set_cons_zero, List.set_cons_succ]
      refine LooseD.reads (.int .i64 j) rfl rfl ?_ ?_
      · intro w hw
        clear hw
        go_simp
      try simp only [Act.put, List.setIfInBounds_toArray, List.set_cons_zero, List.set_cons_succ]
      refine LooseD.reads (.pointer (some ⟨g1, j * 3, none⟩)) rfl rfl ?_ ?_
      · intro w hw
        clear hw
        go_simp
      try simp only [Act.put, List.setIfInBounds_toArray, List.set_cons_zero, List.set_cons_succ]
      refine LooseD.reads (.agg #[.string sm, .int .i64 fi, .int .i64 us]) rfl rfl ?_ ?_
      · intro w hw
        obtain ⟨x0, x1, x2, y0⟩ := HX.out w hw.1
        clear hw
        go_simp
      try simp only [Act.put, List.setIfInBounds_toArray, List.set_cons_zero, List.set_cons_succ]
      refine LooseD.reads (.slice (some ⟨g3, 0, none⟩) N d3) rfl rfl ?_ ?_
      · intro w hw
        clear hw
        go_simp
      try simp only [Act.put, List.setIfInBounds_toArray, List.set_cons_zero, List.set_cons_succ]
      refine LooseD.reads (.int .i64 j) rfl rfl ?_ ?_
      · intro w hw
        clear hw
        go_simp
      try simp only [Act.put, List.setIfInBounds_toArray, List.set_cons_zero, List.set_cons_succ]
      refine LooseD.reads (.pointer (some ⟨g3, j, none⟩)) rfl rfl ?_ ?_
      · intro w hw
        clear hw
        go_simp
      try simp only [Act.put, List.setIfInBounds_toArray, List.set_cons_zero, List.set_cons_succ]
      refine LooseD.reads (.string sm) rfl rfl ?_ ?_
      · intro w hw
        obtain ⟨x0, x1, x2, y0⟩ := HX.out w hw.1
        clear hw
        go_simp
      try simp only [Act.put, List.setIfInBounds_toArray, List.set_cons_zero, List.set_cons_succ]
      refine LooseD.reads (.agg #[.string tx, .slice A2 n c2]) rfl rfl ?_ ?_
      · intro w hw
        have y0 := cell_of_row _ _ 0 _ _ (0, 0) hw.2.2
        have y1 := cell_of_row _ _ 1 _ _ (0, 0) hw.2.2
        clear hw
        go_simp
      try simp only [Act.put, List.setIfInBounds_toArray, List.set_cons_zero, List.set_cons_succ]
      refine LooseD.reads (.slice (some ⟨g3, 0, none⟩) N d3) rfl rfl ?_ ?_
      · intro w hw
        clear hw
        go_simp
      try simp only [Act.put, List.setIfInBounds_toArray, List.set_cons_zero, List.set_cons_succ]
      refine LooseD.reads (.int .i64 j) rfl rfl ?_ ?_
      · intro w hw
        clear hw
        go_simp
      try simp only [Act.put, List.setIfInBounds_toArray, List.set_cons_zero, List.set_cons_succ]
      refine LooseD.reads (.pointer (some ⟨g3, j, none⟩)) rfl rfl ?_ ?_
      · intro w hw
        clear hw
        go_simp
      try simp only [Act.put, List.setIfInBounds_toArray, List.set_cons_zero, List.set_cons_succ]
      refine LooseD.reads (.string sm) rfl rfl ?_ ?_
      · intro w hw
        obtain ⟨x0, x1, x2, y0⟩ := HX.out w hw.1
        clear hw
        go_simp
      try simp only [Act.put, List.setIfInBounds_toArray, List.set_cons_zero, List.set_cons_succ]
      refine LooseD.gives (.int .i64 fi) 15 #[.agg #[.string tx, .slice A2 n c2], .string sm] rfl rfl ?_ (fun w hw hH => HFq.out w (HW.out.1.trans (hw.1.mono HW.out.1.size))) ?_
      · intro w hw
        clear hw
        go_simp
      try simp only [Act.put, List.setIfInBounds_toArray, List.set_cons_zero, List.set_cons_succ]
      refine LooseD.reads (.agg #[.string tx, .slice A2 n c2]) rfl rfl ?_ ?_
      · intro w hw
        have y0 := cell_of_row _ _ 0 _ _ (0, 0) hw.2.2
        have y1 := cell_of_row _ _ 1 _ _ (0, 0) hw.2.2
        clear hw
        go_simp
      try simp only [Act.put, List.setIfInBounds_toArray, List.set_cons_zero, List.set_cons_succ]
      refine LooseD.reads (.slice (some ⟨g3, 0, none⟩) N d3) rfl rfl ?_ ?_
      · intro w hw
        clear hw
        go_simp
      try simp only [Act.put, List.setIfInBounds_toArray, List.set_cons_zero, List.set_cons_succ]
      refine LooseD.reads (.int .i64 j) rfl rfl ?_ ?_
      · intro w hw
        clear hw
        go_simp
      try simp only [Act.put, List.setIfInBounds_toArray, List.set_cons_zero, List.set_cons_succ]
      refine LooseD.reads (.pointer (some ⟨g3, j, none⟩)) rfl rfl ?_ ?_
      · intro w hw
        clear hw
        go_simp
      try simp only [Act.put, List.setIfInBounds_toArray, List.set_cons_zero, List.set_cons_succ]
      refine LooseD.reads (.string sm) rfl rfl ?_ ?_
      · intro w hw
        obtain ⟨x0, x1, x2, y0⟩ := HX.out w hw.1
        clear hw
        go_simp
      try simp only [Act.put, List.setIfInBounds_toArray, List.set_cons_zero, List.set_cons_succ]
      refine LooseD.gives (.int .i64 us) 16 #[.agg #[.string tx, .slice A2 n c2], .string sm] rfl rfl ?_ (fun w hw hH => HUq.out w (HW.out.1.trans (hw.1.mono HW.out.1.size))) ?_
      · intro w hw
        clear hw
        go_simp
      try simp only [Act.put, List.setIfInBounds_toArray, List.set_cons_zero, List.set_cons_succ]
      refine LooseD.reads (.agg #[.string sm, .int .i64 fi, .int .i64 us]) rfl rfl ?_ ?_
      · intro w hw
        clear hw
        go_simp
      try simp only [Act.put, List.setIfInBounds_toArray, List.set_cons_zero, List.set_cons_succ]
      refine LooseD.reads (.bool false) rfl rfl ?_ ?_
      · intro w hw
        clear hw
        go_simp
      try simp only [Act.put, List.setIfInBounds_toArray, List.set_cons_zero, List.set_cons_succ]
      refine LooseD.done ?_
      intro w9 hw9 _
      have HB9 := Lib.hid (HB.out.trans (hw9.1.mono HB.out.size))
      clear hw9
      go_wp2_with fail
      go_roundw
      case rel => exact ⟨j + 1, by omega, by simp, HB9.out⟩
      case measure => simp [intOf]; omega
    · have hlt2 : ¬ (j : Int) < (N : Int) := by omega
      have HB10 := Lib.hid (HBV.out.trans ((HB8.out.1.trans (hb.mono HB8.out.1.size)).mono HBV.out.size))
      clear hb
      go_wp2
      go_ret
      exact ⟨rfl, HB10.out⟩

set_option maxRecDepth 100000 in
theorem lifted (os : Os) (started : os.Started) (H : Type) (enc : TypeId × Value → H) :
    ReturnsInHanded {} Try.checked os 3 .any (Rows.symbolsTablesSpec.pre6 enc Try.prog Try.f3 Rows.symbolsTablesRow.domain false) (Rows.symbolsTablesSpec.post enc Try.prog Try.f3 false true false false) := by
  refine returnsInHanded_of_change (C := Try.checked) own started (by kernel_rfl) Try.func3
    (ChangeSpec.witness6 (enc := enc) (C := Try.checked) false ⟨#[], #[.string ByteArray.empty], []⟩ 8 (by kernel_rfl) (by kernel_rfl) (by kernel_rfl) (by kernel_rfl)) ?_
  intro W base args ds gs before hval0 hW hcnd _
  have hval : ∀ (j : Nat) t v, Try.f3.params[j]? = some t → args[j]? = some v → Value.okWide Try.prog W .any base t v := hval0
  have hW' := hW
  obtain ⟨p, q, hA0, hV, rfl, hfz, hnd⟩ := hW
  have hA : DataW.TrodAll enc Try.prog W 0 (fun _ => true) true Try.f3.params.toList args.toList ds p := hA0
  rw [Try.params3] at hA hval
  obtain ⟨v0, vs0, d0, ds0, p0, q0, hargs, rfl, rfl, h0, r0⟩ := trodAll_cons hA
  obtain ⟨rfl, rfl, rfl⟩ := trodAll_nil r0
  obtain rfl : args = #[v0] := by cases args; simp_all
  obtain ⟨rfl, rfl⟩ := trodVars_none hV
  obtain ⟨a0, rfl, rfl, rfl, w0⟩ := open_string Try.underlying9 (hval 0 9 v0 rfl rfl) h0
  clear hA0 hval0
  refine (walk a0 w0 W).mono fun e W' ⟨he, bel⟩ => ?_
  subst he
  exact ⟨_, rfl, _, _, _, [], _, [], hW', trodAll_mk1 (shut_bool Try.underlying4 _), (trodAll_cons_mk (shut_string Try.underlying9 w0) trodAll_mk0), rfl, bel.frame _, fun h => by cases h⟩

theorem over : Rows.SymbolsTablesSaid :=
  OpenClaim.holds_of_wide 3 Try.f3 rfl rfl rfl rfl rfl rfl rfl ⟨rfl, rfl, rfl, rfl, rfl⟩ rfl rfl rfl rfl rfl (by kernel_rfl) Try.func3 (by kernel_rfl)
    (of_decide_eq_true (by kernel_rfl)) (by unfold Func.isWrapper; first | (rw [if_pos (by decide +kernel)]; kernel_rfl) | (rw [if_neg (by decide +kernel)]; exact ⟨rfl, rfl⟩))
    (fun os started H enc _ => lifted os started H enc)

theorem proved : Rows.SymbolsTablesSaid := over
#print axioms proved

