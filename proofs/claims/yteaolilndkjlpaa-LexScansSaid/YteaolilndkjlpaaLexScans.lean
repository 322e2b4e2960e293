/-
  LexScans: of any text the call returns true: its tokens, with their places, or where it is wrong, and how, are the plain answer's. For every text; no condition of ours.
-/
import Derived.Test.YteaolilndkjlpaaLxRows
import Derived.Test.YteaolilndkjlpaaLxRefScan2
import Derived.Test.YteaolilndkjlpaaRows
import Derived.ProofKit
import Derived.OpenShut
import Derived.ShutString
import Derived.ChangeOld
namespace Go.Proofs.Yteaolilndkjlpaa.lexScans
open Go.ChangeShapes Go.WideShapes Go.ChangeAt Go.RowKit
open Go.ChangeMaps (open_string shut_string)
open Lx (bs Tk Toks)
set_option linter.unusedVariables false

theorem own : ownKnob Try.prog.godebug = none := by kernel_rfl

theorem toks_of {w : World} {B : Nat} {A : Option Addr} {cap : Nat} {ts : List Tk} (h : w.ownsRow B 44 4 (.slice A ts.length cap) ts.length (Lx.tkCells ts)) (hn : 0 < ts.length) :
    ∃ r, A = some ⟨r, 0, none⟩ ∧ Toks w r ts ∧ ts.length ≤ cap := by
  rcases h.2 with ⟨h1, h2⟩ | ⟨g, cap2, cur, h1, h2, h3, h4, _⟩
  · omega
  · injection h1 with hA _ h5
    subst hA
    subst h5
    have hc := h.cells (g := g) rfl
    exact ⟨g, rfl, ⟨Lx.heap_lt h3, fun j u hj => by have := hc j u hj; rwa [Lx.add_row] at this⟩, h4⟩

structure SameAt (T : List Tk) (r1 r2 : Nat) (w W : World) : Prop where
  t1 : Toks W r1 T
  t2 : Toks W r2 T
  bel : Below w.heap.size w W
theorem SameAt.drewN {T : List Tk} {r1 r2 : Nat} {w W : World} (h : SameAt T r1 r2 w W) (n : Nat) : SameAt T r1 r2 w (W.drewN n) := ⟨h.t1.drewN n, h.t2.drewN n, Lx.below_drewN h.bel n⟩

set_option maxRecDepth 100000 in
set_option maxHeartbeats 4000000 in
theorem same_true (s : ByteArray) (w : World) (hs : s.size ≤ 2000) :
    Calls Try.prog 10 #[.string s] w fun e w' => e = .returned (.bool true) ∧ Below w.heap.size w w' := by
  have KS := fun W => Lx.scan_any s W (by omega)
  have KR := fun W => Lx.rscan_any s W (by omega)
  obtain ⟨R, hR⟩ : ∃ R, R = Lx.scanS (bs s) := ⟨_, rfl⟩
  rw [← hR] at KS KR
  obtain ⟨T, f0, f1, f2⟩ := R
  have hTn : T.length ≤ 2001 := by
    rcases Lx.scanS_cases (bs s) (by rw [Lx.bs_len]; omega) with ⟨f, _, h⟩ | ⟨T', e, h, _, _, _, _, hn⟩
    · rw [← hR] at h
      obtain ⟨h1, _⟩ := Prod.mk.inj h
      rw [h1]; simp
    · rw [← hR] at h
      obtain ⟨h1, _⟩ := Prod.mk.inj h
      rw [Lx.bs_len] at hn
      rw [h1, List.length_append, List.length_singleton]; omega
  have K1 := Lib.hid KS
  have K2 := Lib.hid KR
  clear KS KR hR
  have heq : ∀ x : ByteArray, (x.toList == x.toList) = true := fun x => by simp
  by_cases hn : 0 < T.length
  · go_enter Try.func10, Try.ntmps10
    go_wp2_with fail
    refine (K1.out _).mono ?_
    rintro e w1 ⟨A, cap, rfl, hown, b1⟩
    obtain ⟨r1, rfl, ht1, hcap1⟩ := Lx.toks_of hown hn
    simp only [Lx.fltV]
    have HT1 := Lib.hid ht1
    have HB1 := Lib.hid b1
    clear hown ht1 b1
    go_wp2_with fail
    refine (K2.out _).mono ?_
    rintro e w2 ⟨A2, cap2, rfl, hown, b2⟩
    obtain ⟨r2, rfl, ht2, hcap2⟩ := toks_of hown hn
    simp only [Lx.fltV]
    have hf := Lx.flt_at b2
    have g0 : w2.cell? ⟨w1.heap.size, 0, none⟩ = some (.int .i64 f0) := cell_of_row _ _ 0 _ _ _ hf
    have g1 : w2.cell? ⟨w1.heap.size, 1, none⟩ = some (.int .i64 f1) := cell_of_row _ _ 1 _ _ _ hf
    have g2 : w2.cell? ⟨w1.heap.size, 2, none⟩ = some (.int .i64 f2) := cell_of_row _ _ 2 _ _ _ hf
    have hlt : w1.heap.size < w2.heap.size := by have := b2.size; simp at this; omega
    have HB2 := Lib.hid ((HB1.out.alloc HB1.out.size _).trans (b2.mono (Nat.le_trans HB1.out.size (by simp))))
    have HT12 := Lib.hid ((HT1.out.alloc _).below b2)
    have HT2 := Lib.hid ht2
    clear hown ht2 b2 hf
    go_wp2
    have HJ : SameAt T r1 r2 w (w2.alloc (.cells #[.int .i64 f0, .int .i64 f1, .int .i64 f2] 41)) := ⟨HT12.out.alloc _, HT2.out.alloc _, HB2.out.alloc HB2.out.size _⟩
    generalize hW : World.alloc w2 _ = W at HJ ⊢
    clear hW g0 g1 g2 HT1 HT12 HT2 HB1 HB2 K1 K2
    go_loopw [7] (fun i wr => (∃ k : Nat, k ≤ T.length ∧ i = .int .i64 k) ∧ SameAt T r1 r2 w wr) (fun i _ => T.length - (intOf i).toNat)
    case atStart => exact ⟨⟨0, by omega, rfl⟩, HJ⟩
    case round =>
      obtain ⟨⟨k, hk, rfl⟩, hja⟩ := hrel
      clear HJ
      by_cases hkT : k < T.length
      · obtain ⟨x0, x1, x2, x3⟩ := hja.t1.at_ k hkT
        obtain ⟨y0, y1, y2, y3⟩ := hja.t2.at_ k hkT
        generalize T[k].kind = ak at x0 y0
        generalize Lx.mk T[k].text = as_ at x1 y1
        generalize T[k].line = al at x2 y2
        generalize T[k].col = ac at x3 y3
        have HJA := Lib.hid hja
        clear hja
        go_wp2_with fail
        go_quiet (fail)
        go_wp2
        go_roundw
        case rel => exact ⟨⟨k + 1, by omega, by go_num⟩, HJA.out.drewN _⟩
        case measure => simp [intOf]; omega
      · obtain rfl : k = T.length := by omega
        have HJA := Lib.hid hja
        clear hja
        go_wp2
        go_ret
        exact ⟨rfl, HJA.out.bel⟩
  · have hT0 : T = [] := List.eq_nil_of_length_eq_zero (by omega)
    subst hT0
    go_enter Try.func10, Try.ntmps10
    go_wp2_with fail
    refine (K1.out _).mono ?_
    rintro e w1 ⟨A, cap, rfl, hown, b1⟩
    simp only [Lx.fltV, List.length_nil] at *
    have HB1 := Lib.hid b1
    clear hown b1
    go_wp2_with fail
    refine (K2.out _).mono ?_
    rintro e w2 ⟨A2, cap2, rfl, hown, b2⟩
    simp only [Lx.fltV, List.length_nil] at *
    have hf := Lx.flt_at b2
    have g0 : w2.cell? ⟨w1.heap.size, 0, none⟩ = some (.int .i64 f0) := cell_of_row _ _ 0 _ _ _ hf
    have g1 : w2.cell? ⟨w1.heap.size, 1, none⟩ = some (.int .i64 f1) := cell_of_row _ _ 1 _ _ _ hf
    have g2 : w2.cell? ⟨w1.heap.size, 2, none⟩ = some (.int .i64 f2) := cell_of_row _ _ 2 _ _ _ hf
    have hlt : w1.heap.size < w2.heap.size := by have := b2.size; simp at this; omega
    have HB2 := Lib.hid ((HB1.out.alloc HB1.out.size _).trans (b2.mono (Nat.le_trans HB1.out.size (by simp))))
    clear hown b2 hf
    go_wp2
    go_loop [7] (fun i => i = .int .i64 0) (fun _ => 0)
    case atStart => rfl
    case round =>
      obtain rfl := hrel
      go_wp2
      go_ret
      exact ⟨rfl, HB2.out.alloc HB2.out.size _⟩

set_option maxHeartbeats 1000000 in
theorem walk (s : ByteArray) (w : World) :
    Calls Try.prog 3 #[.string s] w fun e w' => e = .returned (.bool true) ∧ Below w.heap.size w w' := by
  by_cases hs : 2000 < (s.size : Int)
  · go_enter Try.func3, Try.ntmps3
    go_wp2_with fail
    refine (Lx.speaks_true _).mono ?_
    rintro e w1 ⟨rfl, b1⟩
    go_wp2
    go_ret
    exact ⟨rfl, b1⟩
  · have KS := Lib.hid (fun W => same_true s W (by omega))
    go_enter Try.func3, Try.ntmps3
    go_wp2_with fail
    refine (Lx.speaks_true _).mono ?_
    rintro e w1 ⟨rfl, b1⟩
    go_wp2_with fail
    refine (KS.out _).mono ?_
    rintro e w2 ⟨rfl, b2⟩
    go_wp2
    go_ret
    exact ⟨rfl, b1.trans (b2.mono b1.size)⟩

set_option maxRecDepth 100000 in
theorem lifted (os : Os) (started : os.Started) (H : Type) (enc : TypeId × Value → H) :
    ReturnsInHanded {} Try.checked os 3 .any (Rows.lexScansSpec.pre6 enc Try.prog Try.f3 Rows.lexScansRow.domain false) (Rows.lexScansSpec.post enc Try.prog Try.f3 false true false false) := by
  refine returnsInHanded_of_change (C := Try.checked) own started (by kernel_rfl) Try.func3
    (ChangeSpec.witness6 (enc := enc) (C := Try.checked) false ⟨#[], #[.string ByteArray.empty], []⟩ 8 (by kernel_rfl) (by kernel_rfl) (by kernel_rfl) (by kernel_rfl)) ?_
  intro W base args ds gs before hval0 hW hcnd _
  have hval : ∀ (j : Nat) t v, Try.f3.params[j]? = some t → args[j]? = some v → Value.okWide Try.prog W .any base t v := hval0
  have hW' := hW
  obtain ⟨p, q, hA0, hV, rfl, hfz, hnd⟩ := hW
  have hA : DataW.TrodAll enc Try.prog W 0 (fun _ => true) true Try.f3.params.toList args.toList ds p := hA0
  rw [Try.params3] at hA hval
  obtain ⟨v0, vs0, d0, ds0, p0, q0, hargs, rfl, rfl, h0, r0⟩ := trodAll_cons hA
  obtain ⟨rfl, rfl, rfl⟩ := trodAll_nil r0
  obtain rfl : args = #[v0] := by cases args; simp_all
  obtain ⟨rfl, rfl⟩ := trodVars_none hV
  obtain ⟨a0, rfl, rfl, rfl, w0⟩ := open_string Try.underlying9 (hval 0 9 v0 rfl rfl) h0
  clear hA0 hval0
  refine (walk a0 W).mono fun e W' ⟨he, bel⟩ => ?_
  subst he
  exact ⟨_, rfl, _, _, _, [], _, [], hW', trodAll_mk1 (shut_bool Try.underlying4 _), (trodAll_cons_mk (shut_string Try.underlying9 w0) trodAll_mk0), rfl, bel.frame _, fun h => by cases h⟩

theorem over : Rows.LexScansSaid :=
  OpenClaim.holds_of_wide 3 Try.f3 rfl rfl rfl rfl rfl rfl rfl ⟨rfl, rfl, rfl, rfl, rfl⟩ rfl rfl rfl rfl rfl (by kernel_rfl) Try.func3 (by kernel_rfl)
    (of_decide_eq_true (by kernel_rfl)) (by unfold Func.isWrapper; first | (rw [if_pos (by decide +kernel)]; kernel_rfl) | (rw [if_neg (by decide +kernel)]; exact ⟨rfl, rfl⟩))
    (fun os started H enc _ => lifted os started H enc)

theorem proved : Rows.LexScansSaid := over
#print axioms proved
end Go.Proofs.Yteaolilndkjlpaa.lexScans
