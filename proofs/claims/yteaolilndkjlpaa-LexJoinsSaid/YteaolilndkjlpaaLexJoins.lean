/-
  LexJoins: of any two texts that are read the call returns true: with a newline between they are read as both, the second one's lines further on. For every two texts; no condition of ours.
-/
import Derived.Test.YteaolilndkjlpaaLxRows
import Derived.Test.YteaolilndkjlpaaRows
import Derived.ProofKit
import Derived.OpenShut
import Derived.ShutString
import Derived.ChangeOld
import Derived.IntWalk
namespace Go.Proofs.Yteaolilndkjlpaa.lexJoins
open Go.ChangeShapes Go.WideShapes Go.ChangeAt Go.RowKit
open Go.ChangeMaps (open_string shut_string)
open Lx (bs Tk Toks)
set_option linter.unusedVariables false

theorem own : ownKnob Try.prog.godebug = none := by kernel_rfl

theorem join_scan (a b : List UInt8) (ha : a.length ≤ 500) (hb : b.length ≤ 500) (T M : List Tk) (e : Tk) (h1 : Lx.scanS a = (T ++ [e], (0, 0, 0))) (h2 : Lx.scanS b = (M, (0, 0, 0))) :
    Lx.scanS (a ++ 10 :: b) = (T ++ M.map (Tk.down e.line), (0, 0, 0)) := by
  rw [Lx.scanS, if_neg (by omega)] at h1 h2
  rw [Lx.scanS, if_neg (by simp; omega)]
  obtain ⟨init, e', he, h3⟩ := Lx.scan_join b false a 1 1 _ h1
  obtain ⟨rfl, h5⟩ := List.append_inj' he rfl
  obtain rfl : e = e' := by simpa using h5
  have h4 := Lx.scan_down e.line false b 1 1 _ h2
  rw [h3, Nat.add_comm e.line 1, h4]
  rfl

/-- What stands in memory while the tokens are compared. -/
structure JoinAt (T M : List Tk) (e : Tk) (r1 r2 r3 : Nat) (w W : World) : Prop where
  t1 : Toks W r1 (T ++ [e])
  t2 : Toks W r2 M
  t3 : Toks W r3 (T ++ M.map (Tk.down e.line))
  bel : Below w.heap.size w W
theorem JoinAt.drewN {T M : List Tk} {e : Tk} {r1 r2 r3 : Nat} {w W : World} (h : JoinAt T M e r1 r2 r3 w W) (n : Nat) : JoinAt T M e r1 r2 r3 w (W.drewN n) :=
  ⟨h.t1.drewN n, h.t2.drewN n, h.t3.drewN n, Lx.below_drewN h.bel n⟩
theorem Below.cell_alloc' (W : World) (o : Obj) {r j : Nat} (hr : r < W.heap.size) : (W.alloc o).cell? ⟨r, j, none⟩ = W.cell? ⟨r, j, none⟩ := ((Below.refl W.heap.size W).alloc (Nat.le_refl _) o).cell (p := ⟨r, j, none⟩) hr
theorem JoinAt.below {T M : List Tk} {e : Tk} {r1 r2 r3 : Nat} {w W W' : World} (h : JoinAt T M e r1 r2 r3 w W) (b : Below W.heap.size W W') : JoinAt T M e r1 r2 r3 w W' :=
  ⟨h.t1.below b, h.t2.below b, h.t3.below b, h.bel.trans (b.mono h.bel.size)⟩

set_option maxRecDepth 100000 in
set_option maxHeartbeats 4000000 in
theorem walk (a b : ByteArray) (w : World) :
    Calls Try.prog 6 #[.string a, .string b] w fun e w' => e = .returned (.bool true) ∧ Below w.heap.size w w' := by
  by_cases ha : 500 < (a.size : Int)
  · go_enter Try.func6, Try.ntmps6
    go_wp2_with fail
    refine (Lx.speaks_true _).mono ?_
    rintro e w1 ⟨rfl, b1⟩
    go_wp2
    go_ret
    exact ⟨rfl, b1⟩
  by_cases hb : 500 < (b.size : Int)
  · go_enter Try.func6, Try.ntmps6
    go_wp2_with fail
    refine (Lx.speaks_true _).mono ?_
    rintro e w1 ⟨rfl, b1⟩
    go_wp2
    go_ret
    exact ⟨rfl, b1⟩
  have KA := fun W => Lx.scan_any a W (by omega)
  have KB := fun W => Lx.scan_any b W (by omega)
  rcases Lx.scanS_cases (bs a) (by rw [Lx.bs_len]; omega) with ⟨⟨f0, f1, f2⟩, hf, hsa⟩ | ⟨T, e, hsa, hek, het, hva, hla, hnT⟩
  · rw [hsa] at KA
    obtain ⟨RB, hRB⟩ : ∃ R, R = Lx.scanS (bs b) := ⟨_, rfl⟩
    rw [← hRB] at KB
    obtain ⟨M, g0, g1, g2⟩ := RB
    have e1 : ((f2 : Int) != 0) = true := by rw [bne_iff_ne]; simp only at hf; omega
    have e2 : ((f2 : Int) == 0) = false := by rw [beq_eq_false_iff_ne]; simp only at hf; omega
    have K1 := Lib.hid KA
    have K2 := Lib.hid KB
    clear KA KB hRB hsa hf
    go_enter Try.func6, Try.ntmps6
    go_wp2_with fail
    refine (Lx.speaks_true _).mono ?_
    rintro e w1 ⟨rfl, b1⟩
    go_wp2_with fail
    refine (K1.out _).mono ?_
    rintro e w2 ⟨A, cap, rfl, hown, b2⟩
    simp only [Lx.fltV]
    have HB := Lib.hid (b1.trans (b2.mono b1.size))
    clear hown b2
    go_wp2_with fail
    refine (K2.out _).mono ?_
    rintro e w3 ⟨A2, cap2, rfl, hown, b3⟩
    simp only [Lx.fltV]
    have hf := Lx.flt_at b3
    have c2 : w3.cell? ⟨w2.heap.size, 2, none⟩ = some (.int .i64 f2) := cell_of_row _ _ 2 _ _ _ hf
    have hlt : w2.heap.size < w3.heap.size := by have := b3.size; simp at this; omega
    have HB3 := Lib.hid ((HB.out.alloc HB.out.size _).trans (b3.mono (Nat.le_trans HB.out.size (by simp))))
    clear hown b3 hf
    go_wp2
    go_ret
    exact ⟨rfl, HB3.out.alloc HB3.out.size _⟩
  · rw [hsa] at KA
    rcases Lx.scanS_cases (bs b) (by rw [Lx.bs_len]; omega) with ⟨⟨g0, g1, g2⟩, hg, hsb⟩ | ⟨M', e', hsb, hek', het', hvb, hlb, hnM⟩
    · rw [hsb] at KB
      have e1 : ((g2 : Int) != 0) = true := by rw [bne_iff_ne]; simp only at hg; omega
      have e2 : ((g2 : Int) == 0) = false := by rw [beq_eq_false_iff_ne]; simp only at hg; omega
      have K1 := Lib.hid KA
      have K2 := Lib.hid KB
      clear KA KB hsa hsb hg hla hek het hva
      go_enter Try.func6, Try.ntmps6
      go_wp2_with fail
      refine (Lx.speaks_true _).mono ?_
      rintro e w1 ⟨rfl, b1⟩
      go_wp2_with fail
      refine (K1.out _).mono ?_
      rintro e w2 ⟨A, cap, rfl, hown, b2⟩
      simp only [Lx.fltV]
      have HB := Lib.hid (b1.trans (b2.mono b1.size))
      clear hown b2
      go_wp2_with fail
      refine (K2.out _).mono ?_
      rintro e w3 ⟨A2, cap2, rfl, hown, b3⟩
      simp only [Lx.fltV]
      have hf := Lx.flt_at b3
      have c2 : w3.cell? ⟨w2.heap.size, 2, none⟩ = some (.int .i64 0) := cell_of_row _ _ 2 _ _ _ hf
      have hlt : w2.heap.size < w3.heap.size := by have := b3.size; simp at this; omega
      have HB3 := Lib.hid ((HB.out.alloc HB.out.size _).trans (b3.mono (Nat.le_trans HB.out.size (by simp))))
      clear hown b3 hf
      go_wp2
      go_ret
      exact ⟨rfl, HB3.out.alloc HB3.out.size _⟩
    · obtain ⟨M, hM⟩ : ∃ M, M = M' ++ [e'] := ⟨_, rfl⟩
      rw [Lx.bs_len] at hnT hnM
      have hMn : M.length ≤ 501 := by rw [hM]; simp; omega
      have hTn : T.length ≤ 500 := by omega
      clear hnT hnM
      rw [← hM] at hsb hlb
      have hMl : 0 < M.length := by rw [hM]; simp
      rw [hsb] at KB
      have hj := join_scan (bs a) (bs b) (by rw [Lx.bs_len]; omega) (by rw [Lx.bs_len]; omega) T M e hsa hsb
      obtain ⟨t, ht⟩ : ∃ t, t = a ++ ⟨#[10]⟩ ++ b := ⟨_, rfl⟩
      have hbt : bs t = bs a ++ 10 :: bs b := by rw [ht]; simp [bs]
      have hts : t.size = a.size + 1 + b.size := by have := congrArg List.length hbt; simp at this; omega
      have KT := fun W => Lx.scan_any t W (by omega)
      rw [hbt, hj, ht] at KT
      have hlT : (T ++ [e]).length = T.length + 1 := by simp
      have hlA : (T ++ M.map (Tk.down e.line)).length = T.length + M.length := by simp
      have K1 := Lib.hid KA
      have K2 := Lib.hid KB
      have K3 := Lib.hid KT
      have hc1 : ¬ 9223372036854775807 < a.size + 1 := by omega
      have hc2 : ¬ 9223372036854775807 < a.size + 1 + b.size := by omega
      have HEL := Lib.hid (hla e (by simp))
      have HLB := Lib.hid hlb
      have HLT := Lib.hid hlT
      have HLA := Lib.hid hlA
      clear KA KB KT hsa hsb hj hbt ht hlT hlA hla hlb hek het hva hek' het' hvb hM
      go_enter Try.func6, Try.ntmps6
      go_wp2_with fail
      refine (Lx.speaks_true _).mono ?_
      rintro e0 w1 ⟨rfl, b1⟩
      go_wp2_with fail
      refine (K1.out _).mono ?_
      rintro e0 w2 ⟨A, cap, rfl, hown, b2⟩
      obtain ⟨r1, rfl, htk1, hcap1⟩ := Lx.toks_of hown (by simp)
      simp only [Lx.fltV]
      have HB := Lib.hid (b1.trans (b2.mono b1.size))
      have HK1 := Lib.hid htk1
      simp only [HLT.out] at *
      clear hown b2 htk1
      go_wp2_with fail
      refine (K2.out _).mono ?_
      rintro e0 w3 ⟨A2, cap2, rfl, hown, b3⟩
      obtain ⟨r2, rfl, htk2, hcap2⟩ := Lx.toks_of hown hMl
      simp only [Lx.fltV]
      have hf := Lx.flt_at b3
      have c2 : w3.cell? ⟨w2.heap.size, 2, none⟩ = some (.int .i64 0) := cell_of_row _ _ 2 _ _ _ hf
      have hlt : w2.heap.size < w3.heap.size := by have := b3.size; simp at this; omega
      have HK13 := Lib.hid ((HK1.out.alloc _).below b3)
      have HK2 := Lib.hid htk2
      have HB3 := Lib.hid ((HB.out.alloc HB.out.size _).trans (b3.mono (Nat.le_trans HB.out.size (by simp))))
      clear hown b3 hf htk2
      go_wp2_with fail
      refine (K3.out _).mono ?_
      rintro e0 w4 ⟨A3, cap3, rfl, hown, b4⟩
      obtain ⟨r3, rfl, htk3, hcap3⟩ := Lx.toks_of hown (by simp; omega)
      simp only [Lx.fltV]
      have HK14 := Lib.hid ((HK13.out.alloc _).below b4)
      have HK24 := Lib.hid ((HK2.out.alloc _).below b4)
      have HK3 := Lib.hid htk3
      have HB4 := Lib.hid ((HB3.out.alloc HB3.out.size _).trans (b4.mono (Nat.le_trans HB3.out.size (by simp))))
      simp only [HLA.out] at *
      clear hown b4 htk3 c2 hlt
      have eT := (HK14.out.alloc (.cells #[.int .i64 0, .int .i64 0, .int .i64 0] 27)).at_ T.length (by simp)
      have eT2 : (w4.alloc (.cells #[.int .i64 0, .int .i64 0, .int .i64 0] 27)).cell? ⟨r1, T.length * 4 + 2, none⟩ = some (.int .i64 e.line) := by
        have := eT.2.2.1
        simpa using this
      clear eT
      go_wp2
      have hw4 := HB4.out.size
      have HW1 := Lib.hid (HK14.out.alloc (.cells #[.int .i64 0, .int .i64 0, .int .i64 0] 27))
      have HW2 := Lib.hid (HK24.out.alloc (.cells #[.int .i64 0, .int .i64 0, .int .i64 0] 27))
      have HW3 := Lib.hid (HK3.out.alloc (.cells #[.int .i64 0, .int .i64 0, .int .i64 0] 27))
      have HWB := Lib.hid (HB4.out.alloc hw4 (.cells #[.int .i64 0, .int .i64 0, .int .i64 0] 27))
      generalize hW : World.alloc w4 _ = W
      rw [hW] at HW1 HW2 HW3 HWB
      have hel := HEL.out
      rw [Lx.bs_len] at hel
      have heq : ∀ x : ByteArray, (x.toList == x.toList) = true := fun x => by simp
      clear hW eT2 HK1 HK13 HK2 HK14 HK24 HK3 HB HB3 HB4 K1 K2 K3
      have HJ : JoinAt T M e r1 r2 r3 w W := ⟨HW1.out, HW2.out, HW3.out, HWB.out⟩
      clear HW1 HW2 HW3 HWB
      go_loopw [12] (fun i wr => (∃ k : Nat, k ≤ T.length ∧ i = .int .i64 k) ∧ JoinAt T M e r1 r2 r3 w wr) (fun i _ => T.length - (intOf i).toNat)
      case atStart => exact ⟨⟨0, by omega, rfl⟩, HJ⟩
      case round =>
        obtain ⟨⟨k, hk, rfl⟩, hja⟩ := hrel
        clear HJ
        by_cases hkT : k < T.length
        · obtain ⟨x0, x1, x2, x3⟩ := hja.t1.at_ k (by rw [List.length_append]; omega)
          obtain ⟨y0, y1, y2, y3⟩ := hja.t3.at_ k (by rw [List.length_append]; omega)
          rw [List.getElem_append_left hkT] at x0 x1 x2 x3 y0 y1 y2 y3
          generalize T[k].kind = ak at x0 y0
          generalize Lx.mk T[k].text = as_ at x1 y1
          generalize T[k].line = al at x2 y2
          generalize T[k].col = ac at x3 y3
          have HJA := Lib.hid hja
          clear hja
          go_wp2_with fail
          go_quiet (fail)
          go_wp2
          go_roundw
          case rel => exact ⟨⟨k + 1, by omega, by go_num⟩, HJA.out.drewN _⟩
          case measure => simp [intOf]; omega
        · obtain rfl : k = T.length := by omega
          have HJA := Lib.hid hja
          clear hja
          go_wp2
          go_loopw [13] (fun i wr => (∃ k : Nat, k ≤ M.length ∧ i = .int .i64 k) ∧ JoinAt T M e r1 r2 r3 w wr) (fun i _ => M.length - (intOf i).toNat)
          case atStart => exact ⟨⟨0, by omega, rfl⟩, HJA.out⟩
          case round =>
            obtain ⟨⟨k, hk, rfl⟩, hja⟩ := hrel
            clear HJA
            by_cases hkM : k < M.length
            · obtain ⟨x0, x1, x2, x3⟩ := hja.t2.at_ k hkM
              obtain ⟨y0, y1, y2, y3⟩ := (hja.t3.alloc (.cells #[.int .i64 M[k].kind, .string (Lx.mk M[k].text), .int .i64 M[k].line, .int .i64 M[k].col] 31)).at_ (T.length + k) (by rw [List.length_append, List.length_map]; omega)
              have hml := HLB.out M[k] (List.getElem_mem hkM)
              rw [Lx.bs_len] at hml
              simp only [List.getElem_append_right (show T.length ≤ T.length + k by omega), Nat.add_sub_cancel_left, List.getElem_map, Tk.down] at y0 y1 y2 y3
              generalize M[k].kind = ak at x0 y0 y1 y2 y3
              generalize Lx.mk M[k].text = as_ at x1 y0 y1 y2 y3
              generalize M[k].line = al at x2 y0 y1 y2 y3 hml
              generalize M[k].col = ac at x3 y0 y1 y2 y3
              have hr3 : r3 < wr.heap.size := hja.t3.1
              have HJA := Lib.hid hja
              clear hja
              have hnew : Lx.TkAt (wr.alloc (.cells #[.int .i64 ak, .string as_, .int .i64 ((al : Int) + e.line), .int .i64 ac] 31)) wr.heap.size ak as_ ((al : Int) + e.line) ac := heap_alloc_new wr _
              have hbel : Below wr.heap.size wr (wr.alloc (.cells #[.int .i64 ak, .string as_, .int .i64 ((al : Int) + e.line), .int .i64 ac] 31)) := (Below.refl _ _).alloc (Nat.le_refl _) _
              have HN := Lib.hid hnew
              have HBL := Lib.hid hbel
              have HY := Lib.hid (And.intro y0 (And.intro y1 (And.intro y2 y3)))
              clear hnew hbel y0 y1 y2 y3
              go_wp2_with fail
              generalize hW2 : World.alloc wr _ = W2
              rw [hW2] at HN HBL
              obtain ⟨v0, v1, v2, v3, vf⟩ := HN.out.facts
              have hkeep : ∀ j u, wr.cell? ⟨r3, j, none⟩ = some u → W2.cell? ⟨r3, j, none⟩ = some u := fun j u h => (HBL.out.cell (p := ⟨r3, j, none⟩) hr3).trans h
              obtain ⟨y0, y1, y2, y3⟩ := HY.out
              rw [Below.cell_alloc' wr _ hr3] at y0 y1 y2 y3
              have z0 := hkeep _ _ y0
              have z1 := hkeep _ _ y1
              have z2 := hkeep _ _ y2
              have z3 := hkeep _ _ y3
              rw [Int.natCast_add] at z2
              have HJ2 := Lib.hid (HJA.out.below HBL.out)
              have hix : IntKind.i64.wrap ((T.length : Int) + 1 - 1) = (T.length : Int) := by rw [IntWalk.i64_in _ (by omega)]; omega
              have hix2 : IntKind.i64.wrap ((T.length : Int) + k) = ((T.length + k : Nat) : Int) := by rw [IntWalk.i64_in _ (by omega)]; omega
              clear hW2 hkeep y0 y1 y2 y3 x0 x1 x2 x3 HY
              go_quiet (fail)
              go_wp2
              go_roundw
              case rel => exact ⟨⟨k + 1, by omega, by go_num⟩, HJ2.out.drewN _⟩
              case measure => simp [intOf]; omega
            · obtain rfl : k = M.length := by omega
              have HJA := Lib.hid hja
              clear hja
              go_wp2
              go_ret
              exact ⟨rfl, HJA.out.bel⟩

set_option maxRecDepth 100000 in
theorem lifted (os : Os) (started : os.Started) (H : Type) (enc : TypeId × Value → H) :
    ReturnsInHanded {} Try.checked os 6 .any (Rows.lexJoinsSpec.pre6 enc Try.prog Try.f6 Rows.lexJoinsRow.domain false) (Rows.lexJoinsSpec.post enc Try.prog Try.f6 false true false false) := by
  refine returnsInHanded_of_change (C := Try.checked) own started (by kernel_rfl) Try.func6
    (ChangeSpec.witness6 (enc := enc) (C := Try.checked) false ⟨#[], #[.string ByteArray.empty, .string ByteArray.empty], []⟩ 8 (by kernel_rfl) (by kernel_rfl) (by kernel_rfl) (by kernel_rfl)) ?_
  intro W base args ds gs before hval0 hW hcnd _
  have hval : ∀ (j : Nat) t v, Try.f6.params[j]? = some t → args[j]? = some v → Value.okWide Try.prog W .any base t v := hval0
  have hW' := hW
  obtain ⟨p, q, hA0, hV, rfl, hfz, hnd⟩ := hW
  have hA : DataW.TrodAll enc Try.prog W 0 (fun _ => true) true Try.f6.params.toList args.toList ds p := hA0
  rw [Try.params6] at hA hval
  obtain ⟨v0, vs0, d0, ds0, p0, q0, hargs, rfl, rfl, h0, r0⟩ := trodAll_cons hA
  obtain ⟨v1, vs1, d1, ds1, p1, q1, rfl, rfl, rfl, h1, r1⟩ := trodAll_cons r0
  obtain ⟨rfl, rfl, rfl⟩ := trodAll_nil r1
  obtain rfl : args = #[v0, v1] := by cases args; simp_all
  obtain ⟨rfl, rfl⟩ := trodVars_none hV
  obtain ⟨a0, rfl, rfl, rfl, w0⟩ := open_string Try.underlying9 (hval 0 9 v0 rfl rfl) h0
  obtain ⟨a1, rfl, rfl, rfl, w1⟩ := open_string Try.underlying9 (hval 1 9 v1 rfl rfl) h1
  clear hA0 hval0
  refine (walk a0 a1 W).mono fun e W' ⟨he, bel⟩ => ?_
  subst he
  exact ⟨_, rfl, _, _, _, [], _, [], hW', trodAll_mk1 (shut_bool Try.underlying4 _), (trodAll_cons_mk (shut_string Try.underlying9 w0) (trodAll_cons_mk (shut_string Try.underlying9 w1) trodAll_mk0)), rfl, bel.frame _, fun h => by cases h⟩

theorem over : Rows.LexJoinsSaid :=
  OpenClaim.holds_of_wide 6 Try.f6 rfl rfl rfl rfl rfl rfl rfl ⟨rfl, rfl, rfl, rfl, rfl⟩ rfl rfl rfl rfl rfl (by kernel_rfl) Try.func6 (by kernel_rfl)
    (of_decide_eq_true (by kernel_rfl)) (by unfold Func.isWrapper; first | (rw [if_pos (by decide +kernel)]; kernel_rfl) | (rw [if_neg (by decide +kernel)]; exact ⟨rfl, rfl⟩))
    (fun os started H enc _ => lifted os started H enc)

theorem proved : Rows.LexJoinsSaid := over
#print axioms proved
end Go.Proofs.Yteaolilndkjlpaa.lexJoins
