/-
  LexQuotes: of any bytes the call returns true: their literal is the plain answer's, and is read again as those bytes, or refused at its place where there are none or too many. For every text; no condition of ours.
-/
import Derived.Test.YteaolilndkjlpaaLxSpeaks
import Derived.Test.YteaolilndkjlpaaLxRefQuote
import Derived.Test.YteaolilndkjlpaaRows
import Derived.ProofKit
import Derived.OpenShut
import Derived.ShutString
import Derived.ChangeOld
namespace Go.Proofs.Yteaolilndkjlpaa.lexQuotes
open Go.ChangeShapes Go.WideShapes Go.ChangeAt Go.RowKit
open Go.ChangeMaps (open_string shut_string)
open Lx (bs)
set_option linter.unusedVariables false

theorem own : ownKnob Try.prog.godebug = none := by kernel_rfl

theorem quote_len (q : UInt8) (s : List UInt8) : (Lx.quoteL q s).length ≤ 4 * s.length + 2 := by
  have := Lx.qbody_len q s
  simp [Lx.quoteL]; omega
theorem quote_scan (q : UInt8) (hq : q.toNat = 39 ∨ q.toNat = 34) (s : List UInt8) (h0 : s ≠ []) (h16 : s.length ≤ 16) : Lx.scanS (Lx.quoteL q s) = ([⟨2, s, 1, 1⟩, ⟨4, [], 1, 1 + (Lx.quoteL q s).length⟩], (0, 0, 0)) := by
  have h := quote_len q s
  rw [Lx.scanS, if_neg (by omega)]
  have := Lx.scan_quoted q hq s [] 1 1 h0 h16
  rw [List.append_nil] at this
  rw [this, Lx.scan_end]
  rfl
theorem quote_bad (q : UInt8) (hq : q.toNat = 39 ∨ q.toNat = 34) (s : List UInt8) (h : s = [] ∨ 16 < s.length) (hl : s.length ≤ 200) : ∃ k, k ≠ 0 ∧ k < 7 ∧ Lx.scanS (Lx.quoteL q s) = ([], (1, 1, k)) := by
  have hq2 := quote_len q s
  rw [Lx.scanS, if_neg (by omega)]
  have := Lx.scan_quoted_bad q hq s [] 1 1 h
  rw [List.append_nil] at this
  exact this

set_option maxHeartbeats 4000000 in
theorem walk (s : ByteArray) (w : World) :
    Calls Try.prog 5 #[.string s] w fun e w' => e = .returned (.bool true) ∧ Below w.heap.size w w' := by
  by_cases hs : 200 < (s.size : Int)
  · go_enter Try.func5, Try.ntmps5
    go_wp2_with fail
    refine (Lx.speaks_true _).mono ?_
    rintro e w1 ⟨rfl, b1⟩
    go_wp2
    go_ret
    exact ⟨rfl, b1⟩
  · obtain ⟨qt, hqt⟩ : ∃ qt, qt = Lx.mk (Lx.quoteL (Lx.qOf (bs s)) (bs s)) := ⟨_, rfl⟩
    have hqs : qt.size = (Lx.quoteL (Lx.qOf (bs s)) (bs s)).length := by rw [hqt]; rfl
    have hql := quote_len (Lx.qOf (bs s)) (bs s)
    rw [← hqs, Lx.bs_len] at hql
    have KQ := fun W => Lx.quote_any s W (by omega)
    have KR := fun W => Lx.rquote_any s W (by omega)
    rw [← hqt] at KQ KR
    have KS := fun W => Lx.scan_any qt W (by omega)
    have hbq : bs qt = Lx.quoteL (Lx.qOf (bs s)) (bs s) := by rw [hqt]; rfl
    rw [hbq] at KS
    have t1 : (qt.toList == qt.toList) = true := by simp
    have t2 : (s.toList == s.toList) = true := by simp
    by_cases hbad : s.size = 0 ∨ 16 < s.size
    · obtain ⟨k, hk0, hk7, hk⟩ := quote_bad _ (Lx.qOf_is (bs s)) (bs s) (by rcases hbad with h | h; exact .inl (List.eq_nil_of_length_eq_zero h); exact .inr h) (by rw [Lx.bs_len]; omega)
      rw [hk] at KS
      have hkk : ((k : Int) == 0) = false := by rw [beq_eq_false_iff_ne]; omega
      have hkk2 : ((k : Int) != 0) = true := by rw [bne_iff_ne]; omega
      have K1 := Lib.hid KQ
      have K2 := Lib.hid KR
      have K3 := Lib.hid KS
      clear KQ KR KS hbq hqt hqs hk
      by_cases h0 : s.size = 0
      · have hse := Lx.empty_of h0
        subst hse
        clear hbad
        go_enter Try.func5, Try.ntmps5
        go_wp2_with fail
        refine (Lx.speaks_true _).mono ?_
        rintro e w1 ⟨rfl, b1⟩
        go_wp2_with fail
        refine (K1.out _).mono ?_
        rintro e w2 ⟨rfl, b2⟩
        go_wp2_with fail
        refine (K3.out _).mono ?_
        rintro e w3 ⟨A, cap, rfl, hown, b3⟩
        simp only [Lx.fltV]
        have HB := Lib.hid ((b1.trans (b2.mono b1.size)).trans (b3.mono (Nat.le_trans b1.size b2.size)))
        clear b2 b3 hown
        simp only [List.length_nil] at *
        go_wp2_with fail
        refine (K2.out _).mono ?_
        rintro e w4 ⟨rfl, b4⟩
        have HB4 := Lib.hid ((HB.out.alloc HB.out.size _).trans (b4.mono (Nat.le_trans HB.out.size (by simp))))
        have hf := Lx.flt_at b4
        have f0 : w4.cell? ⟨w3.heap.size, 0, none⟩ = some (.int .i64 1) := cell_of_row _ _ 0 _ _ _ hf
        have f1 : w4.cell? ⟨w3.heap.size, 1, none⟩ = some (.int .i64 1) := cell_of_row _ _ 1 _ _ _ hf
        have f2 : w4.cell? ⟨w3.heap.size, 2, none⟩ = some (.int .i64 k) := cell_of_row _ _ 2 _ _ _ hf
        clear hf b4
        go_wp2
        go_ret
        exact ⟨rfl, HB4.out⟩
      · have h16 : (16 : Int) < s.size := by omega
        have he := Lx.nempty (s := s) (by omega)
        have he2 : (s.toList == []) = false := by rw [beq_eq_false_iff_ne]; intro e; rw [e] at he; simp at he
        clear hbad
        go_enter Try.func5, Try.ntmps5
        go_wp2_with fail
        refine (Lx.speaks_true _).mono ?_
        rintro e w1 ⟨rfl, b1⟩
        go_wp2_with fail
        refine (K1.out _).mono ?_
        rintro e w2 ⟨rfl, b2⟩
        go_wp2_with fail
        refine (K3.out _).mono ?_
        rintro e w3 ⟨A, cap, rfl, hown, b3⟩
        simp only [Lx.fltV]
        have HB := Lib.hid ((b1.trans (b2.mono b1.size)).trans (b3.mono (Nat.le_trans b1.size b2.size)))
        clear b2 b3 hown
        simp only [List.length_nil] at *
        go_wp2_with fail
        refine (K2.out _).mono ?_
        rintro e w4 ⟨rfl, b4⟩
        have HB4 := Lib.hid ((HB.out.alloc HB.out.size _).trans (b4.mono (Nat.le_trans HB.out.size (by simp))))
        have hf := Lx.flt_at b4
        have f0 : w4.cell? ⟨w3.heap.size, 0, none⟩ = some (.int .i64 1) := cell_of_row _ _ 0 _ _ _ hf
        have f1 : w4.cell? ⟨w3.heap.size, 1, none⟩ = some (.int .i64 1) := cell_of_row _ _ 1 _ _ _ hf
        have f2 : w4.cell? ⟨w3.heap.size, 2, none⟩ = some (.int .i64 k) := cell_of_row _ _ 2 _ _ _ hf
        clear hf b4
        go_wp2
        go_ret
        exact ⟨rfl, HB4.out⟩
    · have hn : bs s ≠ [] := fun e => hbad (.inl (by have := congrArg List.length e; simpa [Lx.bs_len] using this))
      have hsc := quote_scan _ (Lx.qOf_is (bs s)) (bs s) hn (by rw [Lx.bs_len]; omega)
      rw [hsc] at KS
      have hp : 0 < s.size := by omega
      have h16 : (s.size : Int) ≤ 16 := by omega
      have he := Lx.nempty hp
      have he2 : (s.toList == []) = false := by rw [beq_eq_false_iff_ne]; intro e; rw [e] at he; simp at he
      have K1 := Lib.hid KQ
      have K2 := Lib.hid KR
      have K3 := Lib.hid KS
      have HQS := Lib.hid hqs
      clear KQ KR KS hbq hqt hqs hsc hn hbad
      go_enter Try.func5, Try.ntmps5
      go_wp2_with fail
      refine (Lx.speaks_true _).mono ?_
      rintro e w1 ⟨rfl, b1⟩
      go_wp2_with fail
      refine (K1.out _).mono ?_
      rintro e w2 ⟨rfl, b2⟩
      go_wp2_with fail
      refine (K3.out _).mono ?_
      rintro e w3 ⟨A, cap, rfl, hown, b3⟩
      simp only [Lx.fltV]
      have HB := Lib.hid ((b1.trans (b2.mono b1.size)).trans (b3.mono (Nat.le_trans b1.size b2.size)))
      obtain ⟨r, rfl, hr, hr2, hcap, hc⟩ := Lx.row_at hown (by show 0 < 2; omega)
      have c0 : w3.cell? ⟨r, 0, none⟩ = some (.int .i64 2) := hc 0 _ rfl
      have c1 : w3.cell? ⟨r, 1, none⟩ = some (.string s) := hc 1 _ rfl
      have c7 : w3.cell? ⟨r, 7, none⟩ = some (.int .i64 ((1 + (Lx.quoteL (Lx.qOf (bs s)) (bs s)).length : Nat) : Int)) := hc 7 _ rfl
      rw [← HQS.out] at c7
      have e7 : ((1 + qt.size : Nat) : Int) = (qt.size : Int) + 1 := by omega
      rw [e7] at c7
      simp only [List.length_cons, List.length_nil] at *
      clear b2 b3 hown hc e7
      go_wp2_with fail
      refine (K2.out _).mono ?_
      rintro e w4 ⟨rfl, b4⟩
      have d0 : w4.cell? ⟨r, 0, none⟩ = some (.int .i64 2) := (Lx.cell_keep hr b4 0).trans c0
      have d1 : w4.cell? ⟨r, 1, none⟩ = some (.string s) := (Lx.cell_keep hr b4 1).trans c1
      have d7 : w4.cell? ⟨r, 7, none⟩ = some (.int .i64 ((qt.size : Int) + 1)) := (Lx.cell_keep hr b4 7).trans c7
      have HB4 := Lib.hid ((HB.out.alloc HB.out.size _).trans (b4.mono (Nat.le_trans HB.out.size (by simp))))
      have hf := Lx.flt_at b4
      have f0 : w4.cell? ⟨w3.heap.size, 0, none⟩ = some (.int .i64 0) := cell_of_row _ _ 0 _ _ _ hf
      have f1 : w4.cell? ⟨w3.heap.size, 1, none⟩ = some (.int .i64 0) := cell_of_row _ _ 1 _ _ _ hf
      have f2 : w4.cell? ⟨w3.heap.size, 2, none⟩ = some (.int .i64 0) := cell_of_row _ _ 2 _ _ _ hf
      clear hf b4 c0 c1 c7
      go_wp2
      go_ret
      exact ⟨rfl, HB4.out⟩

set_option maxRecDepth 100000 in
theorem lifted (os : Os) (started : os.Started) (H : Type) (enc : TypeId × Value → H) :
    ReturnsInHanded {} Try.checked os 5 .any (Rows.lexQuotesSpec.pre6 enc Try.prog Try.f5 Rows.lexQuotesRow.domain false) (Rows.lexQuotesSpec.post enc Try.prog Try.f5 false true false false) := by
  refine returnsInHanded_of_change (C := Try.checked) own started (by kernel_rfl) Try.func5
    (ChangeSpec.witness6 (enc := enc) (C := Try.checked) false ⟨#[], #[.string ByteArray.empty], []⟩ 8 (by kernel_rfl) (by kernel_rfl) (by kernel_rfl) (by kernel_rfl)) ?_
  intro W base args ds gs before hval0 hW hcnd _
  have hval : ∀ (j : Nat) t v, Try.f5.params[j]? = some t → args[j]? = some v → Value.okWide Try.prog W .any base t v := hval0
  have hW' := hW
  obtain ⟨p, q, hA0, hV, rfl, hfz, hnd⟩ := hW
  have hA : DataW.TrodAll enc Try.prog W 0 (fun _ => true) true Try.f5.params.toList args.toList ds p := hA0
  rw [Try.params5] at hA hval
  obtain ⟨v0, vs0, d0, ds0, p0, q0, hargs, rfl, rfl, h0, r0⟩ := trodAll_cons hA
  obtain ⟨rfl, rfl, rfl⟩ := trodAll_nil r0
  obtain rfl : args = #[v0] := by cases args; simp_all
  obtain ⟨rfl, rfl⟩ := trodVars_none hV
  obtain ⟨a0, rfl, rfl, rfl, w0⟩ := open_string Try.underlying9 (hval 0 9 v0 rfl rfl) h0
  clear hA0 hval0
  refine (walk a0 W).mono fun e W' ⟨he, bel⟩ => ?_
  subst he
  exact ⟨_, rfl, _, _, _, [], _, [], hW', trodAll_mk1 (shut_bool Try.underlying4 _), (trodAll_cons_mk (shut_string Try.underlying9 w0) trodAll_mk0), rfl, bel.frame _, fun h => by cases h⟩

theorem over : Rows.LexQuotesSaid :=
  OpenClaim.holds_of_wide 5 Try.f5 rfl rfl rfl rfl rfl rfl rfl ⟨rfl, rfl, rfl, rfl, rfl⟩ rfl rfl rfl rfl rfl (by kernel_rfl) Try.func5 (by kernel_rfl)
    (of_decide_eq_true (by kernel_rfl)) (by unfold Func.isWrapper; first | (rw [if_pos (by decide +kernel)]; kernel_rfl) | (rw [if_neg (by decide +kernel)]; exact ⟨rfl, rfl⟩))
    (fun os started H enc _ => lifted os started H enc)

theorem proved : Rows.LexQuotesSaid := over
#print axioms proved
end Go.Proofs.Yteaolilndkjlpaa.lexQuotes
