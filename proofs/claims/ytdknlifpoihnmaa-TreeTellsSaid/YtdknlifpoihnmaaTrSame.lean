/-
  Layer 14: the walk of Same.
-/
import Derived.Test.YtdknlifpoihnmaaTrYield
namespace Go.Proofs.Ytdknlifpoihnmaa.Tr
open Go.RowKit
open Gn (Asks)
open Fx (IntsAt Prd PG own_of_block own_base)
set_option maxRecDepth 100000
set_option linter.unusedSimpArgs false
set_option linter.unusedVariables false

mutual
def sameT : Tr → Tr → Bool
  | .mk n l, .mk m k => decide (n = m) && sameL l k
def sameL : List Tr → List Tr → Bool
  | [], [] => true
  | a :: r, b :: s => sameT a b && sameL r s
  | [], _ :: _ => false
  | _ :: _, [] => false
end
theorem sameL_len : ∀ (l k : List Tr), l.length ≠ k.length → sameL l k = false
  | [], [], h => absurd rfl h
  | [], _ :: _, _ => by rw [sameL]
  | _ :: _, [], _ => by rw [sameL]
  | a :: r, s :: ss, h => by rw [sameL, sameL_len r ss (by simpa using h), Bool.and_false]
theorem sameL_step (l ss : List Tr) (k : Nat) (h1 : k < l.length) (h2 : k < ss.length) : sameL (l.drop k) (ss.drop k) = (sameT l[k] ss[k] && sameL (l.drop (k + 1)) (ss.drop (k + 1))) := by
  rw [List.drop_eq_getElem_cons h1, List.drop_eq_getElem_cons h2, sameL]
theorem sameL_end (l ss : List Tr) (k : Nat) (h1 : l.length ≤ k) (h2 : ss.length ≤ k) : sameL (l.drop k) (ss.drop k) = true := by
  rw [List.drop_eq_nil_of_le h1, List.drop_eq_nil_of_le h2, sameL]
mutual
theorem same_self : ∀ t : Tr, sameT t t = true
  | .mk n l => by rw [sameT, sameL_self l]; simp
theorem sameL_self : ∀ l : List Tr, sameL l l = true
  | [] => by rw [sameL]
  | a :: r => by rw [sameL, same_self a, sameL_self r]; rfl
end
/-- Same answers as it should of this tree. -/
def SameCtr (t : Tr) : Prop := ∀ (u : Tr) (P Q : Nat → Prop) (W : World) (x y x' y' : Value), TrAt P W t x y → TrAt Q W u x' y' → Calls Try.prog 16 #[.agg #[x, y], .agg #[x', y']] W (Asks (sameT t u) W)
set_option maxHeartbeats 4000000 in
theorem same_kids (l ss : List Tr) (hl : ∀ a ∈ l, SameCtr a) (P Q : Nat → Prop) (W : World) (v v' : Value) (h : TrsAt P W l v) (h' : TrsAt Q W ss v') (hn : l.length ≤ 1099511627776) :
    Calls Try.prog 40 #[v, v', .func (.func 16) #[] #[]] W (Asks (sameL l ss) W) := by
  by_cases hlen : l.length = ss.length
  · obtain ⟨A, cap, r, a, b, rfl, hcap, h3, h4⟩ := h
    obtain ⟨A', cap', r', a', b', rfl, hcap', h3', h4'⟩ := h'
    obtain ⟨R, hR⟩ : ∃ R, R = sameL l ss := ⟨_, rfl⟩
    rw [← hR]
    have HR := Lib.hid hR
    have e1 : ((l.length : Int) != (ss.length : Int)) = false := by rw [bne_eq_false_iff_eq]; omega
    obtain ⟨n, hn1⟩ : ∃ n, n = l.length := ⟨_, rfl⟩
    have hn2 : ss.length = n := by omega
    rw [← hn1] at e1 hcap h3 hn ⊢
    rw [hn2] at e1 hcap' h3' ⊢
    have HN1 := Lib.hid hn1
    have HN2 := Lib.hid hn2
    have H3 := Lib.hid h3
    have H4 := Lib.hid h4
    have H3' := Lib.hid h3'
    have H4' := Lib.hid h4'
    have HB := Lib.hid (Below.refl W.heap.size W)
    clear hR hn1 hn2 h3 h4 h3' h4' hlen
    go_enter Try.func40, Try.ntmps40
    go_wp2
    go_loopw [17] (fun i wr => ∃ k : Nat, k ≤ n ∧ i = .int .i64 k ∧ Below W.heap.size W wr ∧ sameL (l.drop k) (ss.drop k) = R) (fun i _ => n - (intOf i).toNat)
    case atStart => exact ⟨0, Nat.zero_le _, rfl, HB.out, HR.out.symm⟩
    case round =>
      obtain ⟨k, hk, rfl, hbel, hE⟩ := hrel
      have HE := Lib.hid hE
      have HBL := Lib.hid hbel
      clear hE hbel
      by_cases hlt : k < n
      · have h1 : k < l.length := by rw [← HN1.out]; exact hlt
        have h2 : k < ss.length := by rw [HN2.out]; exact hlt
        obtain ⟨eA, hr, _⟩ := H3.out (by omega)
        obtain ⟨eA', hr', _⟩ := H3'.out (by omega)
        subst eA
        subst eA'
        obtain ⟨⟨x0, x1⟩, hnd⟩ := H4.out k h1
        obtain ⟨⟨y0, y1⟩, hnd'⟩ := H4'.out k h2
        obtain ⟨ka, Aa, na, ca, ea, ec⟩ := hnd.form
        obtain ⟨kb, Ab, nb, cb, ea', ec'⟩ := hnd'.form
        rw [ea] at x0 hnd; rw [ec] at x1 hnd
        rw [ea'] at y0 hnd'; rw [ec'] at y1 hnd'
        have X0 := (HBL.out.cell (p := ⟨r, k * 2, none⟩) hr).trans x0
        have X1 := (HBL.out.cell (p := ⟨r, k * 2 + 1, none⟩) hr).trans x1
        have bb : ∀ o : Obj, Below wr.heap.size wr (wr.alloc o) := fun o => (Below.refl _ _).alloc (Nat.le_refl _) o
        have hrr : r' < wr.heap.size := Nat.lt_of_lt_of_le hr' HBL.out.size
        have Y0 := fun o : Obj => ((bb o).cell (p := ⟨r', k * 2, none⟩) hrr).trans ((HBL.out.cell (p := ⟨r', k * 2, none⟩) hr').trans y0)
        have Y1 := fun o : Obj => ((bb o).cell (p := ⟨r', k * 2 + 1, none⟩) hrr).trans ((HBL.out.cell (p := ⟨r', k * 2 + 1, none⟩) hr').trans y1)
        have hb3 := (HBL.out.alloc HBL.out.size (.cells #[.int .i64 ka, .slice Aa na ca] 39)).alloc (by have := HBL.out.size; simp; omega) (.cells #[.int .i64 kb, .slice Ab nb cb] 39)
        have KC := hl l[k] (List.getElem_mem h1) ss[k] P Q _ _ _ _ _ (hnd.under hb3) (hnd'.under hb3)
        have hst := sameL_step l ss k h1 h2
        rw [HE.out] at hst
        have HST := Lib.hid hst
        have HKC := Lib.hid KC
        have HB3 := Lib.hid hb3
        clear hst KC hb3 hnd hnd' x0 x1 y0 y1 ea ec ea' ec' bb
        go_wp2_with fail
        refine HKC.out.mono ?_
        rintro e w2 ⟨rfl, hb4⟩
        have hb5 := HB3.out.trans (hb4.mono HB3.out.size)
        have HB5 := Lib.hid hb5
        clear hb4 hb5
        cases hq : sameT l[k] ss[k]
        · have hR0 : R = false := by rw [HST.out, hq]; rfl
          subst hR0
          go_wp2
          go_ret
          exact ⟨rfl, HB5.out⟩
        · have hR1 : sameL (l.drop (k + 1)) (ss.drop (k + 1)) = R := by rw [HST.out, hq]; rfl
          have HR1 := Lib.hid hR1
          clear hR1
          go_wp2
          go_roundw
          case rel => exact ⟨k + 1, by omega, by go_num, HB5.out, HR1.out⟩
          case measure => simp [intOf]; omega
      · have hR1 : R = true := by rw [← HE.out]; exact sameL_end l ss k (by rw [← HN1.out]; omega) (by rw [HN2.out]; omega)
        subst hR1
        go_wp2
        go_ret
        exact ⟨rfl, HBL.out⟩
  · rw [sameL_len l ss hlen]
    obtain ⟨A, cap, r, a, b, rfl, hcap, h3, h4⟩ := h
    obtain ⟨A', cap', r', a', b', rfl, hcap', h3', h4'⟩ := h'
    have e1 : ((l.length : Int) != (ss.length : Int)) = true := by rw [bne_iff_ne]; omega
    clear h3 h4 h3' h4' hlen
    go_enter Try.func40, Try.ntmps40
    go_wp2
    go_ret
    exact ⟨rfl, Below.refl _ _⟩
set_option maxHeartbeats 4000000 in
theorem samet_any {t : Tr} (hs : SmT t) : SameCtr t := by
  induction hs with
  | mk n l hlen hl ih =>
    intro u P Q W x y x' y' h h'
    obtain ⟨m, k⟩ := u
    obtain ⟨rfl, hk⟩ := h.open_
    obtain ⟨rfl, hk'⟩ := h'.open_
    obtain ⟨V, hV⟩ : ∃ V, V = (W.alloc (.cells #[.int .i64 n, y] 39)).alloc (.cells #[.int .i64 m, y'] 39) := ⟨_, rfl⟩
    have hb0 : Below W.heap.size W V := by rw [hV]; exact ((Below.refl _ W).alloc (Nat.le_refl _) _).alloc (by simp) _
    have hx0 : V.heap[W.heap.size]? = some (.cells #[.int .i64 n, y] 39 (0, 0)) := by rw [hV]; exact (heap_alloc_old _ _ (by simp)).trans (heap_alloc_new W _)
    have hx1 : V.heap[W.heap.size + 1]? = some (.cells #[.int .i64 m, y'] 39 (0, 0)) := by
      rw [hV]; have := heap_alloc_new (W.alloc (.cells #[.int .i64 n, y] 39)) (.cells #[.int .i64 m, y'] 39); simpa using this
    have HE := Lib.hid (same_kids l k ih P Q V _ _ (hk.under hb0) (hk'.under hb0) hlen)
    obtain ⟨A, cap, _, _, _, rfl, hz⟩ := hk
    obtain ⟨A', cap', _, _, _, rfl, hz'⟩ := hk'
    clear h h' hz hz' ih hl hlen
    have HV := Lib.hid hV
    have HB0 := Lib.hid hb0
    have HR := Lib.hid (show sameT (.mk n l) (.mk m k) = (decide (n = m) && sameL l k) by rw [sameT])
    have q0 := cell_of_row _ _ 0 _ _ (0, 0) hx0
    have q1 := cell_of_row _ _ 1 _ _ (0, 0) hx0
    have r0 := cell_of_row _ _ 0 _ _ (0, 0) hx1
    have r1 := cell_of_row _ _ 1 _ _ (0, 0) hx1
    rw [HR.out]
    generalize sameL l k = sk at *
    generalize l.length = ll at *
    generalize k.length = kl at *
    clear hV hb0 hx0 hx1 HR
    go_enter Try.func16, Try.ntmps16
    go_upto_region 1 with fail
    rw [← HV.out]
    by_cases hnm : n = m
    · subst hnm
      have e1 : (n == n) = true := beq_self_eq_true n
      go_wp2_with (go_at_call 40; refine HE.out.mono ?_; rintro e w1 ⟨rfl, hb1⟩)
      go_ret
      exact ⟨by simp, HB0.out.trans (hb1.mono HB0.out.size)⟩
    · have e1 : (n == m) = false := by rw [beq_eq_false_iff_ne]; exact hnm
      have e2 : decide (n = m) = false := decide_eq_false hnm
      go_wp2_with fail
      go_ret
      exact ⟨by simp [hnm], HB0.out⟩
end Go.Proofs.Ytdknlifpoihnmaa.Tr
