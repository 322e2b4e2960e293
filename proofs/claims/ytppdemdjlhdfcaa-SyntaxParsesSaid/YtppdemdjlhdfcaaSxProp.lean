/-
  Whether a grammar can be a text: its nodes, its rules.
-/
import Derived.Test.YtppdemdjlhdfcaaSxTop
namespace Go.Proofs.Ytppdemdjlhdfcaa.Sx
open Go.RowKit
open Lx (bs)
set_option maxRecDepth 100000

/-- improper answers as it should of this tree. -/
def ImpCtr (t : Tree) : Prop := ∀ (P : Nat → Prop) (W : World) (x y z : Value), Nd P W t x y z → Calls Try.prog 38 #[.agg #[x, y, z]] W (Asks (impT t) W)
def ImpRCtr (r : Rul) : Prop := ∀ (P : Nat → Prop) (W : World) (x y z : Value), Nd P W r.2 x y z → Calls Try.prog 24 #[.agg #[.string (Lx.mk r.1), x, y, z]] W (Asks (impR r) W)

set_option maxHeartbeats 4000000 in
theorem index_nodes (l : List Tree) (hl : ∀ a ∈ l, ImpCtr a) (P : Nat → Prop) (W : World) (v : Value) (h : NdsAt P W l v) (hn : l.length ≤ 4611686018427387904) :
    Calls Try.prog 63 #[v, .func (.func 38) #[] #[]] W (Finds (impL l) W) := by
  obtain ⟨A, cap, r, a, b, c, rfl, hcap, h3, h4⟩ := h
  obtain ⟨R, hR⟩ : ∃ R, R = impL l := ⟨_, rfl⟩
  rw [← hR]
  have HR := Lib.hid hR
  obtain ⟨n, hn1⟩ : ∃ n, n = l.length := ⟨_, rfl⟩
  rw [← hn1] at hcap h3 hn ⊢
  have HN1 := Lib.hid hn1
  have H3 := Lib.hid h3
  have H4 := Lib.hid h4
  have HB := Lib.hid (Below.refl W.heap.size W)
  clear hR hn1 h3 h4
  go_enter Try.func63, Try.ntmps63
  go_wp2
  go_loopw [8] (fun i wr => ∃ k : Nat, k ≤ n ∧ i = .int .i64 k ∧ Below W.heap.size W wr ∧ impL (l.drop k) = R) (fun i _ => n - (intOf i).toNat)
  case atStart => exact ⟨0, Nat.zero_le _, rfl, HB.out, HR.out.symm⟩
  case round =>
    obtain ⟨k, hk, rfl, hbel, hE⟩ := hrel
    have HE := Lib.hid hE
    have HBL := Lib.hid hbel
    clear hE hbel
    by_cases hlt : k < n
    · have h1 : k < l.length := by rw [← HN1.out]; exact hlt
      obtain ⟨eA, hr, _⟩ := H3.out (by omega)
      subst eA
      obtain ⟨⟨x0, x1, x2⟩, hnd⟩ := H4.out k h1
      obtain ⟨ka, ta, Aa, na, ca, ea, eb, ec⟩ := hnd.form
      rw [ea] at x0 hnd; rw [eb] at x1 hnd; rw [ec] at x2 hnd
      have X0 := (HBL.out.cell (p := ⟨r, k * 3, none⟩) hr).trans x0
      have X1 := (HBL.out.cell (p := ⟨r, k * 3 + 1, none⟩) hr).trans x1
      have X2 := (HBL.out.cell (p := ⟨r, k * 3 + 2, none⟩) hr).trans x2
      have KC := hl l[k] (List.getElem_mem h1) P _ _ _ _ (hnd.keep (Q := P) HBL.out.size fun q hq hq2 => ⟨hq, fun j => HBL.out.cell (p := ⟨q, j, none⟩) hq2⟩)
      have hst := impL_step l k h1
      rw [HE.out] at hst
      have HST := Lib.hid hst
      have HKC := Lib.hid KC
      clear hst KC hnd x0 x1 x2 ea eb ec
      go_wp2_with fail
      refine HKC.out.mono ?_
      rintro e w2 ⟨rfl, hb4⟩
      have HB5 := Lib.hid (HBL.out.trans (hb4.mono HBL.out.size))
      clear hb4
      cases hq : impT l[k]
      · have hR1 : impL (l.drop (k + 1)) = R := by rw [HST.out, hq]; rfl
        have HR1 := Lib.hid hR1
        clear hR1
        go_wp2
        go_roundw
        case rel => exact ⟨k + 1, by omega, by go_num, HB5.out, HR1.out⟩
        case measure => simp [intOf]; omega
      · have hR0 : R = true := by rw [HST.out, hq]; rfl
        subst hR0
        go_wp2
        go_ret
        exact ⟨_, rfl, decide_eq_true (by omega), HB5.out⟩
    · have hR1 : R = false := by rw [← HE.out]; exact impL_end l k (by rw [← HN1.out]; omega)
      subst hR1
      go_wp2
      go_ret
      exact ⟨_, rfl, rfl, HBL.out⟩
set_option maxHeartbeats 1000000 in
theorem has_nodes (l : List Tree) (hl : ∀ a ∈ l, ImpCtr a) (P : Nat → Prop) (W : World) (v : Value) (h : NdsAt P W l v) (hn : l.length ≤ 4611686018427387904) :
    Calls Try.prog 55 #[v, .func (.func 38) #[] #[]] W (Asks (impL l) W) := by
  have HK := Lib.hid (index_nodes l hl P W v h hn)
  obtain ⟨A, cap, rfl⟩ := h.form
  generalize impL l = R at HK ⊢
  clear h hn hl
  go_enter Try.func55, Try.ntmps55
  go_wp2_with fail
  refine HK.out.mono ?_
  rintro e w1 ⟨i, rfl, hi, hb⟩
  have HI := Lib.hid hi
  clear hi
  go_wp2
  go_ret
  exact ⟨by rw [HI.out]; rfl, hb⟩

set_option maxHeartbeats 4000000 in
theorem index_rules (l : List Rul) (hl : ∀ a ∈ l, ImpRCtr a) (P : Nat → Prop) (W : World) (v : Value) (h : RlsAt P W l v) (hn : l.length ≤ 4611686018427387904) :
    Calls Try.prog 37 #[v, .func (.func 24) #[] #[]] W (Finds (impRs l) W) := by
  obtain ⟨A, cap, r, a, b, c, rfl, hcap, h3, h4⟩ := h
  obtain ⟨R, hR⟩ : ∃ R, R = impRs l := ⟨_, rfl⟩
  rw [← hR]
  have HR := Lib.hid hR
  obtain ⟨n, hn1⟩ : ∃ n, n = l.length := ⟨_, rfl⟩
  rw [← hn1] at hcap h3 hn ⊢
  have HN1 := Lib.hid hn1
  have H3 := Lib.hid h3
  have H4 := Lib.hid h4
  have HB := Lib.hid (Below.refl W.heap.size W)
  clear hR hn1 h3 h4
  go_enter Try.func37, Try.ntmps37
  go_wp2
  go_loopw [8] (fun i wr => ∃ k : Nat, k ≤ n ∧ i = .int .i64 k ∧ Below W.heap.size W wr ∧ impRs (l.drop k) = R) (fun i _ => n - (intOf i).toNat)
  case atStart => exact ⟨0, Nat.zero_le _, rfl, HB.out, HR.out.symm⟩
  case round =>
    obtain ⟨k, hk, rfl, hbel, hE⟩ := hrel
    have HE := Lib.hid hE
    have HBL := Lib.hid hbel
    clear hE hbel
    by_cases hlt : k < n
    · have h1 : k < l.length := by rw [← HN1.out]; exact hlt
      obtain ⟨eA, hr, _⟩ := H3.out (by omega)
      subst eA
      obtain ⟨⟨xn, x0, x1, x2⟩, hnd⟩ := H4.out k h1
      obtain ⟨ka, ta, Aa, na, ca, ea, eb, ec⟩ := hnd.form
      rw [ea] at x0 hnd; rw [eb] at x1 hnd; rw [ec] at x2 hnd
      have XN := (HBL.out.cell (p := ⟨r, k * 4, none⟩) hr).trans xn
      have X0 := (HBL.out.cell (p := ⟨r, k * 4 + 1, none⟩) hr).trans x0
      have X1 := (HBL.out.cell (p := ⟨r, k * 4 + 2, none⟩) hr).trans x1
      have X2 := (HBL.out.cell (p := ⟨r, k * 4 + 3, none⟩) hr).trans x2
      have KC := hl l[k] (List.getElem_mem h1) P _ _ _ _ (hnd.keep (Q := P) HBL.out.size fun q hq hq2 => ⟨hq, fun j => HBL.out.cell (p := ⟨q, j, none⟩) hq2⟩)
      have hst := impRs_step l k h1
      rw [HE.out] at hst
      have HST := Lib.hid hst
      have HKC := Lib.hid KC
      obtain ⟨nx, hnx⟩ : ∃ nx, nx = Lx.mk l[k].1 := ⟨_, rfl⟩
      rw [← hnx] at XN HKC
      clear hst KC hnd xn x0 x1 x2 ea eb ec hnx
      go_wp2_with fail
      refine HKC.out.mono ?_
      rintro e w2 ⟨rfl, hb4⟩
      have HB5 := Lib.hid (HBL.out.trans (hb4.mono HBL.out.size))
      clear hb4
      cases hq : impR l[k]
      · have hR1 : impRs (l.drop (k + 1)) = R := by rw [HST.out, hq]; rfl
        have HR1 := Lib.hid hR1
        clear hR1
        go_wp2
        go_roundw
        case rel => exact ⟨k + 1, by omega, by go_num, HB5.out, HR1.out⟩
        case measure => simp [intOf]; omega
      · have hR0 : R = true := by rw [HST.out, hq]; rfl
        subst hR0
        go_wp2
        go_ret
        exact ⟨_, rfl, decide_eq_true (by omega), HB5.out⟩
    · have hR1 : R = false := by rw [← HE.out]; exact impRs_end l k (by rw [← HN1.out]; omega)
      subst hR1
      go_wp2
      go_ret
      exact ⟨_, rfl, rfl, HBL.out⟩
set_option maxHeartbeats 1000000 in
theorem has_rules (l : List Rul) (hl : ∀ a ∈ l, ImpRCtr a) (P : Nat → Prop) (W : World) (v : Value) (h : RlsAt P W l v) (hn : l.length ≤ 4611686018427387904) :
    Calls Try.prog 23 #[v, .func (.func 24) #[] #[]] W (Asks (impRs l) W) := by
  have HK := Lib.hid (index_rules l hl P W v h hn)
  obtain ⟨A, cap, rfl⟩ := h.form
  generalize impRs l = R at HK ⊢
  clear h hn hl
  go_enter Try.func23, Try.ntmps23
  go_wp2_with fail
  refine HK.out.mono ?_
  rintro e w1 ⟨i, rfl, hi, hb⟩
  have HI := Lib.hid hi
  clear hi
  go_wp2
  go_ret
  exact ⟨by rw [HI.out]; rfl, hb⟩

/-- A tree whose texts are short, too. -/
inductive WeT : Tree → Prop
  | mk (k : Nat) (t : List UInt8) (l : List Tree) (ht : t.length ≤ 1048576) (h : l.length ≤ 1048576) (hl : ∀ a ∈ l, WeT a) : WeT (.node k t l)
theorem WeT.sm {t : Tree} (h : WeT t) : SmT t := by
  induction h with
  | mk k t l ht h hl ih => exact .mk k t l h ih
set_option maxHeartbeats 4000000 in
theorem improper_any {t : Tree} (h : WeT t) : ImpCtr t := by
  induction h with
  | mk k tx l htl hlen hl ih =>
    intro P W x y z h
    obtain ⟨rfl, rfl, hz⟩ := h.open_
    have KE := fun w (b : Below W.heap.size W w) => has_nodes l ih P w z (hz.under b) (by omega)
    obtain ⟨A, cap, rfl⟩ := hz.form
    have KT := fun w => top_any k tx A l.length cap w htl (by omega)
    have hb := box_node W (.int .i64 k) (.string (Lx.mk tx)) (.slice A l.length cap)
    obtain ⟨s, hs1⟩ : ∃ s, s = Lx.mk tx := ⟨_, rfl⟩
    rw [← hs1] at KT hb ⊢
    rw [impT]
    have HB := Lib.hid hb
    cases ht : topB k tx l.length
    · rw [ht] at KT
      have HK := Lib.hid KT
      clear KE KT hb hs1 ht hz h
      go_enter Try.func38, Try.ntmps38
      go_wp2_with fail
      refine (HK.out _).mono ?_
      rintro e w2 ⟨rfl, b2⟩
      have HF := Lib.hid (HB.out.trans (b2.mono HB.out.size))
      clear b2
      go_wp2
      go_ret
      exact ⟨rfl, HF.out⟩
    · rw [ht] at KT
      have HK := Lib.hid KT
      have HE := Lib.hid KE
      generalize impL l = R at HE ⊢
      clear KE KT hb hs1 ht hz h
      go_enter Try.func38, Try.ntmps38
      go_wp2_with fail
      refine (HK.out _).mono ?_
      rintro e w2 ⟨rfl, b2⟩
      obtain ⟨hc, hf⟩ := (⟨fun b o h => b2.cell (p := ⟨b, o, none⟩) h, fun b o h => b2.frozen (p := ⟨b, o, none⟩) h⟩ : (∀ b o, b < (W.alloc (.cells #[.int .i64 k, .string s, .slice A l.length cap] 44)).heap.size → w2.cell? ⟨b, o, none⟩ = _) ∧ (∀ b o, b < (W.alloc (.cells #[.int .i64 k, .string s, .slice A l.length cap] 44)).heap.size → w2.frozen? ⟨b, o, none⟩ = _))
      have HF := Lib.hid (HB.out.trans (b2.mono HB.out.size))
      clear b2
      go_wp2_with fail
      refine (HE.out _ HF.out).mono ?_
      rintro e w3 ⟨rfl, b3⟩
      have HF3 := Lib.hid (HF.out.trans (b3.mono HF.out.size))
      clear b3
      go_wp2
      go_ret
      exact ⟨rfl, HF3.out⟩
theorem box_rule (W : World) (n x y z : Value) : Below W.heap.size W (W.alloc (.cells #[n, x, y, z] 46)) := (Below.refl _ _).alloc (Nat.le_refl _) _
set_option maxHeartbeats 4000000 in
theorem improper_rule {r : Rul} (hn : r.1.length ≤ 1048576) (h : WeT r.2) : ImpRCtr r := by
  intro P W x y z hnd
  obtain ⟨n, t⟩ := r
  simp only at hn h hnd ⊢
  have KE := fun w (b : Below W.heap.size W w) => improper_any h P w x y z (hnd.under b)
  obtain ⟨ka, ta, Aa, na, ca, rfl, rfl, rfl⟩ := hnd.form
  have hb := box_rule W (.string (Lx.mk n)) (.int .i64 ka) (.string ta) (.slice Aa na ca)
  have KG := fun w => Lx.good_any (Lx.mk n) w (by rw [show (Lx.mk n).size = n.length from rfl]; omega)
  rw [show bs (Lx.mk n) = n from rfl] at KG
  obtain ⟨s, hs1⟩ : ∃ s, s = Lx.mk n := ⟨_, rfl⟩
  rw [← hs1] at KG hb ⊢
  have HB := Lib.hid hb
  cases ht : Lx.goodB n
  · rw [ht] at KG
    rw [show impR (n, t) = true by unfold impR; simp only; rw [ht]; rfl]
    have HK := Lib.hid KG
    clear KE KG hb hs1 ht hnd h
    go_enter Try.func24, Try.ntmps24
    go_wp2_with fail
    refine (HK.out _).mono ?_
    rintro e w2 ⟨rfl, rfl⟩
    go_wp2
    go_ret
    exact ⟨rfl, HB.out⟩
  · rw [ht] at KG
    rw [show impR (n, t) = impT t by unfold impR; simp only; rw [ht]; rfl]
    have HK := Lib.hid KG
    have HE := Lib.hid KE
    generalize impT t = R at HE ⊢
    clear KE KG hb hs1 ht hnd h
    go_enter Try.func24, Try.ntmps24
    go_wp2_with fail
    refine (HK.out _).mono ?_
    rintro e w2 ⟨rfl, rfl⟩
    go_wp2_with fail
    refine (HE.out _ HB.out).mono ?_
    rintro e w3 ⟨rfl, b3⟩
    have HF3 := Lib.hid (HB.out.trans (b3.mono HB.out.size))
    clear b3
    go_wp2
    go_ret
    exact ⟨rfl, HF3.out⟩

/-- What Proper tells. -/
def propG (s : List UInt8) (l : List Rul) : Bool := Lx.goodB s && decide (0 < l.length) && !impRs l
theorem box_gram (W : World) (n x : Value) : Below W.heap.size W (W.alloc (.cells #[n, x] 25)) := (Below.refl _ _).alloc (Nat.le_refl _) _
set_option maxHeartbeats 4000000 in
theorem proper_any (s : List UInt8) (l : List Rul) (hs : s.length ≤ 1048576) (hl : ∀ r ∈ l, r.1.length ≤ 1048576 ∧ WeT r.2) (P : Nat → Prop) (W : World) (v : Value) (h : RlsAt P W l v) (hn : l.length ≤ 4611686018427387904) :
    Calls Try.prog 9 #[.agg #[.string (Lx.mk s), v]] W (Asks (propG s l) W) := by
  have KE := fun w (b : Below W.heap.size W w) => has_rules l (fun r hr => improper_rule (hl r hr).1 (hl r hr).2) P w v (h.under b) hn
  obtain ⟨A, cap, rfl⟩ := h.form
  have hb := box_gram W (.string (Lx.mk s)) (.slice A l.length cap)
  have KG := fun w => Lx.good_any (Lx.mk s) w (by rw [show (Lx.mk s).size = s.length from rfl]; omega)
  rw [show bs (Lx.mk s) = s from rfl] at KG
  obtain ⟨n, hs1⟩ : ∃ n, n = Lx.mk s := ⟨_, rfl⟩
  rw [← hs1] at KG hb ⊢
  have HB := Lib.hid hb
  unfold propG
  cases ht : Lx.goodB s
  · rw [ht] at KG
    have HK := Lib.hid KG
    clear KE KG hb hs1 ht h hl
    go_enter Try.func9, Try.ntmps9
    go_wp2_with fail
    refine (HK.out _).mono ?_
    rintro e w2 ⟨rfl, rfl⟩
    go_wp2
    go_ret
    exact ⟨rfl, HB.out⟩
  · rw [ht] at KG
    have HK := Lib.hid KG
    by_cases h0 : 0 < l.length
    · have e0 : (0 : Int) < (l.length : Int) := by omega
      rw [decide_eq_true h0]
      have HE := Lib.hid KE
      generalize impRs l = R at HE ⊢
      clear KE KG hb hs1 ht h hl
      go_enter Try.func9, Try.ntmps9
      go_wp2_with fail
      refine (HK.out _).mono ?_
      rintro e w2 ⟨rfl, rfl⟩
      go_wp2_with fail
      refine (HE.out _ HB.out).mono ?_
      rintro e w3 ⟨rfl, b3⟩
      have HF3 := Lib.hid (HB.out.trans (b3.mono HB.out.size))
      clear b3
      go_wp2
      go_ret
      exact ⟨rfl, HF3.out⟩
    · have e0 : ¬ (0 : Int) < (l.length : Int) := by omega
      rw [decide_eq_false h0]
      clear KE KG hb hs1 ht h hl
      go_enter Try.func9, Try.ntmps9
      go_wp2_with fail
      refine (HK.out _).mono ?_
      rintro e w2 ⟨rfl, rfl⟩
      go_wp2
      go_ret
      exact ⟨rfl, HB.out⟩
end Go.Proofs.Ytppdemdjlhdfcaa.Sx
