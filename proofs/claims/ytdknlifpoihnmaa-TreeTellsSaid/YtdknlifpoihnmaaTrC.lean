/-
  Layer 14: the walks of fits and Check.
-/
import Derived.Test.YtdknlifpoihnmaaTrB
namespace Go.Proofs.Ytdknlifpoihnmaa.Tr
open Go.RowKit
open Gn (Asks)
open Fx (IntsAt StrsAt Prd PG PrdsAt PgAt PgBox)
set_option maxRecDepth 100000
set_option linter.unusedSimpArgs false
set_option linter.unusedVariables false

def Tr.prod : Tr → Int
  | .mk n _ => n
mutual
/-- Is it a tree of a sound grammar's? -/
def fitsT (g : PG) : Tr → Bool
  | .mk n l => (rootT g n).2 && fitsL g l (sideT g n)
def fitsL (g : PG) : List Tr → List Int → Bool
  | [], [] => true
  | a :: r, s :: ss => ((rootT g a.prod).2 && (decide ((rootT g a.prod).1 = s) && fitsT g a)) && fitsL g r ss
  | [], _ :: _ => false
  | _ :: _, [] => false
end
def kidB (g : PG) (t : Tr) (s : Int) : Bool := (rootT g t.prod).2 && (decide ((rootT g t.prod).1 = s) && fitsT g t)
theorem fitsL_len (g : PG) : ∀ (l : List Tr) (ss : List Int), l.length ≠ ss.length → fitsL g l ss = false
  | [], [], h => absurd rfl h
  | [], _ :: _, _ => by rw [fitsL]
  | _ :: _, [], _ => by rw [fitsL]
  | a :: r, s :: ss, h => by rw [fitsL, fitsL_len g r ss (by simpa using h), Bool.and_false]
theorem fitsL_step (g : PG) (l : List Tr) (ss : List Int) (k : Nat) (h1 : k < l.length) (h2 : k < ss.length) : fitsL g (l.drop k) (ss.drop k) = (kidB g l[k] ss[k] && fitsL g (l.drop (k + 1)) (ss.drop (k + 1))) := by
  rw [List.drop_eq_getElem_cons h1, List.drop_eq_getElem_cons h2, fitsL]
  rfl
theorem fitsL_end (g : PG) (l : List Tr) (ss : List Int) (k : Nat) (h1 : l.length ≤ k) (h2 : ss.length ≤ k) : fitsL g (l.drop k) (ss.drop k) = true := by
  rw [List.drop_eq_nil_of_le h1, List.drop_eq_nil_of_le h2, fitsL]

/-- fits answers as it should of this tree. -/
def FitCtr (g : PG) (t : Tr) : Prop := ∀ (P Q : Nat → Prop) (W : World) (x y v : Value), TrAt P W t x y → PgAt Q W g v → Calls Try.prog 37 #[v, .agg #[x, y]] W (Asks (fitsT g t) W)

set_option maxHeartbeats 4000000 in
theorem kid_any (g : PG) (hf : Fit g) (t : Tr) (ht : FitCtr g t) (s : Int) (P Q : Nat → Prop) (W : World) (x y : Value) (B : Nat) (h : TrAt P W t x y) (hb : PgBox Q W g B) :
    Calls Try.prog 64 #[.agg #[x, y], .int .i64 s, .pointer (some ⟨B, 0, none⟩)] W (Asks (kidB g t s) W) := by
  obtain ⟨n, l⟩ := t
  obtain ⟨rfl, hk⟩ := h.open_
  have hk0 := hk
  obtain ⟨A, cap, r, a, b, rfl, hq9⟩ := hk0
  clear hq9
  obtain ⟨An, At_, Ap, cn, ct, cp, hx, hN, hT, hP⟩ := hb.facts
  have hpg : PgAt Q W g (.agg #[.int .i64 g.start, .int .i64 g.rules, .slice An g.names.length cn, .slice At_ g.terms.length ct, .slice Ap g.prods.length cp]) := ⟨_, _, _, rfl, hN, hT, hP⟩
  have HBB := Lib.hid ((Below.refl W.heap.size W).alloc (Nat.le_refl _) (.cells #[.int .i64 n, .slice A l.length cap] 39))
  have HNX := Lib.hid (heap_alloc_new W (.cells #[.int .i64 n, .slice A l.length cap] 39))
  have HX := Lib.hid ((HBB.out.block _ (Gn.heap_lt hx)).trans hx)
  have HKR := Lib.hid (fun w (bw : Below W.heap.size W w) => rootOf_any g hf Q w _ (hpg.under bw) n)
  have HKF := Lib.hid (fun w (bw : Below W.heap.size W w) => ht P Q w _ _ _ (h.under bw) (hpg.under bw))
  have hfx : kidB g (.mk n l) s = ((rootT g n).2 && (decide ((rootT g n).1 = s) && fitsT g (.mk n l))) := rfl
  rw [hfx]
  generalize fitsT g (.mk n l) = ft at HKF ⊢
  generalize rootT g n = rt at HKR ⊢
  obtain ⟨ri, rb⟩ := rt
  simp only at HKR ⊢
  obtain ⟨d, hd⟩ : ∃ d, d = decide (ri = s) := ⟨_, rfl⟩
  rw [← hd]
  have HD := Lib.hid hd
  clear hd
  clear hx hN hT hP hpg hk h ht hfx
  generalize l.length = m at *
  generalize g.names.length = ln at *
  generalize g.terms.length = lt at *
  generalize g.prods.length = lp at *
  generalize g.start = st at *
  generalize g.rules = ru at *
  go_enter Try.func64, Try.ntmps64
  go_upto_region 1 with fail
  generalize hV : World.alloc W _ = V
  rw [hV] at HBB HNX HX
  clear hV
  have b0 := cell_of_row _ _ 0 _ _ (0, 0) HX.out
  have b1 := cell_of_row _ _ 1 _ _ (0, 0) HX.out
  have b2 := cell_of_row _ _ 2 _ _ (0, 0) HX.out
  have b3 := cell_of_row _ _ 3 _ _ (0, 0) HX.out
  have b4 := cell_of_row _ _ 4 _ _ (0, 0) HX.out
  have t0 := cell_of_row _ _ 0 _ _ (0, 0) HNX.out
  have t1 := cell_of_row _ _ 1 _ _ (0, 0) HNX.out
  go_wp2_with fail
  refine (HKR.out _ HBB.out).mono ?_
  rintro e w3 ⟨rfl, bw3⟩
  have HB3 := Lib.hid (HBB.out.trans (bw3.mono HBB.out.size))
  have hx3 := (bw3.block _ (Gn.heap_lt HX.out)).trans HX.out
  have hn3 := (bw3.block _ (Gn.heap_lt HNX.out)).trans HNX.out
  have c0 := cell_of_row _ _ 0 _ _ (0, 0) hx3
  have c1 := cell_of_row _ _ 1 _ _ (0, 0) hx3
  have c2 := cell_of_row _ _ 2 _ _ (0, 0) hx3
  have c3 := cell_of_row _ _ 3 _ _ (0, 0) hx3
  have c4 := cell_of_row _ _ 4 _ _ (0, 0) hx3
  have u0 := cell_of_row _ _ 0 _ _ (0, 0) hn3
  have u1 := cell_of_row _ _ 1 _ _ (0, 0) hn3
  clear bw3 hx3 hn3 b0 b1 b2 b3 b4 t0 t1
  cases rb
  · go_wp2_with fail
    go_ret
    exact ⟨rfl, HB3.out⟩
  · cases d
    · have es : (ri == s) = false := by rw [beq_eq_false_iff_ne]; exact of_decide_eq_false HD.out.symm
      go_wp2_with fail
      go_ret
      exact ⟨rfl, HB3.out⟩
    · have es : (ri == s) = true := by rw [beq_iff_eq]; exact of_decide_eq_true HD.out.symm
      go_wp2_with fail
      refine (HKF.out _ HB3.out).mono ?_
      rintro e w4 ⟨rfl, bw4⟩
      have HB4 := Lib.hid (HB3.out.trans (bw4.mono HB3.out.size))
      go_wp2_with fail
      go_ret
      exact ⟨by cases ft <;> rfl, HB4.out⟩

set_option maxHeartbeats 4000000 in
theorem equal_kids (g : PG) (hf : Fit g) (l : List Tr) (ss : List Int) (hl : ∀ a ∈ l, FitCtr g a) (P Q : Nat → Prop) (W : World) (v v' : Value) (B : Nat) (h : TrsAt P W l v) (h' : IntsAt Q W ss v') (hb : PgBox Q W g B) (hn : l.length ≤ 1099511627776) :
    Calls Try.prog 62 #[v, v', .func (.func 64) #[] #[.pointer (some ⟨B, 0, none⟩)]] W (Asks (fitsL g l ss) W) := by
  by_cases hlen : l.length = ss.length
  · obtain ⟨A, cap, r, a, b, rfl, hcap, h3, h4⟩ := h
    obtain ⟨A', cap', r', rfl, hcap', h3', h4'⟩ := h'
    obtain ⟨R, hR⟩ : ∃ R, R = fitsL g l ss := ⟨_, rfl⟩
    rw [← hR]
    have HR := Lib.hid hR
    have e1 : ((l.length : Int) != (ss.length : Int)) = false := by rw [bne_eq_false_iff_eq]; omega
    obtain ⟨n, hn1⟩ : ∃ n, n = l.length := ⟨_, rfl⟩
    have hn2 : ss.length = n := by omega
    rw [← hn1] at e1 hcap h3 hn ⊢
    rw [hn2] at e1 hcap' h3' ⊢
    have HN1 := Lib.hid hn1
    have HN2 := Lib.hid hn2
    have H3 := Lib.hid h3
    have H4 := Lib.hid h4
    have H3' := Lib.hid h3'
    have H4' := Lib.hid h4'
    have HPB := Lib.hid hb
    have HB := Lib.hid (Below.refl W.heap.size W)
    clear hR hn1 hn2 h3 h4 h3' h4' hlen hb
    go_enter Try.func62, Try.ntmps62
    go_wp2
    go_loopw [17] (fun i wr => ∃ k : Nat, k ≤ n ∧ i = .int .i64 k ∧ Below W.heap.size W wr ∧ fitsL g (l.drop k) (ss.drop k) = R) (fun i _ => n - (intOf i).toNat)
    case atStart => exact ⟨0, Nat.zero_le _, rfl, HB.out, HR.out.symm⟩
    case round =>
      obtain ⟨k, hk, rfl, hbel, hE⟩ := hrel
      have HE := Lib.hid hE
      have HBL := Lib.hid hbel
      clear hE hbel
      by_cases hlt : k < n
      · have h1 : k < l.length := by rw [← HN1.out]; exact hlt
        have h2 : k < ss.length := by rw [HN2.out]; exact hlt
        obtain ⟨eA, hr, _⟩ := H3.out (by omega)
        obtain ⟨eA', hr', _⟩ := H3'.out (by omega)
        subst eA
        subst eA'
        obtain ⟨⟨x0, x1⟩, hnd⟩ := H4.out k h1
        have y0 := H4'.out k h2
        obtain ⟨ka, Aa, na, ca, ea, ec⟩ := hnd.form
        rw [ea] at x0 hnd; rw [ec] at x1 hnd
        have X0 := (HBL.out.cell (p := ⟨r, k * 2, none⟩) hr).trans x0
        have X1 := (HBL.out.cell (p := ⟨r, k * 2 + 1, none⟩) hr).trans x1
        have bb : ∀ o : Obj, Below wr.heap.size wr (wr.alloc o) := fun o => (Below.refl _ _).alloc (Nat.le_refl _) o
        have hrr : r' < wr.heap.size := Nat.lt_of_lt_of_le hr' HBL.out.size
        have Y0 := fun o : Obj => ((bb o).cell (p := ⟨r', k, none⟩) hrr).trans ((HBL.out.cell (p := ⟨r', k, none⟩) hr').trans y0)
        have hb3 := HBL.out.trans ((bb (.cells #[.int .i64 ka, .slice Aa na ca] 39)).mono HBL.out.size)
        have KC := kid_any g hf l[k] (hl l[k] (List.getElem_mem h1)) ss[k] P Q _ _ _ B (hnd.under hb3) (HPB.out.under hb3)
        have hst := fitsL_step g l ss k h1 h2
        rw [HE.out] at hst
        have HST := Lib.hid hst
        have HKC := Lib.hid KC
        have HB3 := Lib.hid hb3
        clear hst KC hb3 hnd x0 x1 y0 ea ec bb
        go_wp2_with fail
        refine HKC.out.mono ?_
        rintro e w2 ⟨rfl, hb4⟩
        have hb5 := HB3.out.trans (hb4.mono HB3.out.size)
        have HB5 := Lib.hid hb5
        clear hb4 hb5
        cases hq : kidB g l[k] ss[k]
        · have hR0 : R = false := by rw [HST.out, hq]; rfl
          subst hR0
          go_wp2
          go_ret
          exact ⟨rfl, HB5.out⟩
        · have hR1 : fitsL g (l.drop (k + 1)) (ss.drop (k + 1)) = R := by rw [HST.out, hq]; rfl
          have HR1 := Lib.hid hR1
          clear hR1
          go_wp2
          go_roundw
          case rel => exact ⟨k + 1, by omega, by go_num, HB5.out, HR1.out⟩
          case measure => simp [intOf]; omega
      · have hR1 : R = true := by rw [← HE.out]; exact fitsL_end g l ss k (by rw [← HN1.out]; omega) (by rw [HN2.out]; omega)
        subst hR1
        go_wp2
        go_ret
        exact ⟨rfl, HBL.out⟩
  · rw [fitsL_len g l ss hlen]
    obtain ⟨A, cap, r, a, b, rfl, hcap, h3, h4⟩ := h
    obtain ⟨A', cap', r', rfl, hcap', h3', h4'⟩ := h'
    have e1 : ((l.length : Int) != (ss.length : Int)) = true := by rw [bne_iff_ne]; omega
    clear h3 h4 h3' h4' hlen
    go_enter Try.func62, Try.ntmps62
    go_wp2
    go_ret
    exact ⟨rfl, Below.refl _ _⟩
end Go.Proofs.Ytdknlifpoihnmaa.Tr
