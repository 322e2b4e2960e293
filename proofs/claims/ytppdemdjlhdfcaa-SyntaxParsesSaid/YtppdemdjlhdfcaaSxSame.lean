/-
  Whether two nodes, two grammars are the same.
-/
import Derived.Test.YtppdemdjlhdfcaaSxRules
namespace Go.Proofs.Ytppdemdjlhdfcaa.Sx
open Go.RowKit
set_option maxRecDepth 100000

mutual
def eqT : Tree → Tree → Bool
  | .node k t l, .node k' t' l' => decide (k = k') && decide (t = t') && eqL l l'
def eqL : List Tree → List Tree → Bool
  | [], [] => true
  | a :: l, b :: m => eqT a b && eqL l m
  | [], _ :: _ => false
  | _ :: _, [] => false
end
theorem eqL_len : ∀ l m : List Tree, l.length ≠ m.length → eqL l m = false
  | [], [], h => absurd rfl h
  | [], _ :: _, _ => by rw [eqL]
  | _ :: _, [], _ => by rw [eqL]
  | a :: l, b :: m, h => by rw [eqL, eqL_len l m (by simpa using h), Bool.and_false]
theorem eqL_step (l m : List Tree) (k : Nat) (h1 : k < l.length) (h2 : k < m.length) : eqL (l.drop k) (m.drop k) = (eqT l[k] m[k] && eqL (l.drop (k + 1)) (m.drop (k + 1))) := by
  rw [List.drop_eq_getElem_cons h1, List.drop_eq_getElem_cons h2, eqL]
theorem eqL_end (l m : List Tree) (k : Nat) (h1 : l.length ≤ k) (h2 : m.length ≤ k) : eqL (l.drop k) (m.drop k) = true := by
  rw [List.drop_eq_nil_of_le h1, List.drop_eq_nil_of_le h2, eqL]
mutual
theorem eqT_iff : ∀ s t : Tree, eqT s t = true ↔ s = t
  | .node k t l, .node k' t' l' => by
    rw [eqT]
    simp only [Bool.and_eq_true, decide_eq_true_eq, eqL_iff l l', Tree.node.injEq, and_assoc]
theorem eqL_iff : ∀ l m : List Tree, eqL l m = true ↔ l = m
  | [], [] => by simp [eqL]
  | [], _ :: _ => by simp [eqL]
  | _ :: _, [] => by simp [eqL]
  | a :: l, b :: m => by
    rw [eqL]
    simp only [Bool.and_eq_true, eqT_iff a b, eqL_iff l m, List.cons.injEq]
end

/-- This value reads as these nodes. -/
def NdsAt (P : Nat → Prop) (W : World) (l : List Tree) (v : Value) : Prop :=
  ∃ (A : Option Addr) (cap r : Nat) (a b c : Nat → Value), v = .slice A l.length cap ∧ l.length ≤ cap ∧ (0 < l.length → A = some ⟨r, 0, none⟩ ∧ r < W.heap.size ∧ P r) ∧
    ∀ (i : Nat) (h : i < l.length), (W.cell? ⟨r, i * 3, none⟩ = some (a i) ∧ W.cell? ⟨r, i * 3 + 1, none⟩ = some (b i) ∧ W.cell? ⟨r, i * 3 + 2, none⟩ = some (c i)) ∧ Nd P W l[i] (a i) (b i) (c i)
theorem Nd.open_ {P : Nat → Prop} {W : World} {k : Nat} {t : List UInt8} {l : List Tree} {x y z : Value} (h : Nd P W (.node k t l) x y z) : x = .int .i64 k ∧ y = .string (Lx.mk t) ∧ NdsAt P W l z := by
  cases h with
  | mk k text kids A cap r a b c hA hcap hc hk => exact ⟨rfl, rfl, A, cap, r, a, b, c, rfl, hcap, hA, fun i h => ⟨hc i h, hk i h⟩⟩
theorem NdsAt.under {P : Nat → Prop} {W W' : World} {l : List Tree} {v : Value} (h : NdsAt P W l v) (hb : Below W.heap.size W W') : NdsAt P W' l v := by
  obtain ⟨A, cap, r, a, b, c, h1, h2, h3, h4⟩ := h
  refine ⟨A, cap, r, a, b, c, h1, h2, fun h0 => ?_, fun i hi => ?_⟩
  · obtain ⟨e1, e2, e3⟩ := h3 h0
    have := hb.size
    exact ⟨e1, by omega, e3⟩
  · obtain ⟨e1, e2, e3⟩ := h3 (by omega)
    have e := fun j => hb.cell (p := ⟨r, j, none⟩) e2
    rw [e, e, e]
    exact ⟨(h4 i hi).1, (h4 i hi).2.under hb⟩

/-- A test is told, and nothing that was there is turned. -/
def Asks (b : Bool) (W : World) (e : Ending) (w' : World) : Prop := e = .returned (.bool b) ∧ Below W.heap.size W w'
/-- SameNode answers as it should of this tree and any other one. -/
def SameCtr (t : Tree) : Prop := ∀ (t' : Tree) (P P' : Nat → Prop) (W : World) (x y z x' y' z' : Value), Nd P W t x y z → Nd P' W t' x' y' z' →
  Calls Try.prog 39 #[.agg #[x, y, z], .agg #[x', y', z']] W (Asks (eqT t t') W)

set_option maxHeartbeats 4000000 in
theorem equal_nodes (l m : List Tree) (hl : ∀ a ∈ l, SameCtr a) (P P' : Nat → Prop) (W : World) (v v' : Value) (h : NdsAt P W l v) (h' : NdsAt P' W m v') (hn : l.length ≤ 4611686018427387904) :
    Calls Try.prog 56 #[v, v', .func (.func 39) #[] #[]] W (Asks (eqL l m) W) := by
  by_cases hlen : l.length = m.length
  · obtain ⟨A, cap, r, a, b, c, rfl, hcap, h3, h4⟩ := h
    obtain ⟨A', cap', r', a', b', c', rfl, hcap', h3', h4'⟩ := h'
    obtain ⟨R, hR⟩ : ∃ R, R = eqL l m := ⟨_, rfl⟩
    rw [← hR]
    have HR := Lib.hid hR
    have e1 : ((l.length : Int) != (m.length : Int)) = false := by rw [bne_eq_false_iff_eq]; omega
    obtain ⟨n, hn1⟩ : ∃ n, n = l.length := ⟨_, rfl⟩
    have hn2 : m.length = n := by omega
    rw [← hn1] at e1 hcap h3 hn ⊢
    rw [hn2] at e1 hcap' h3' ⊢
    have HN1 := Lib.hid hn1
    have HN2 := Lib.hid hn2
    have H3 := Lib.hid h3
    have H4 := Lib.hid h4
    have H3' := Lib.hid h3'
    have H4' := Lib.hid h4'
    have HB := Lib.hid (Below.refl W.heap.size W)
    clear hR hn1 hn2 h3 h4 h3' h4' hlen
    go_enter Try.func56, Try.ntmps56
    go_wp2
    go_loopw [17] (fun i wr => ∃ k : Nat, k ≤ n ∧ i = .int .i64 k ∧ Below W.heap.size W wr ∧ eqL (l.drop k) (m.drop k) = R) (fun i _ => n - (intOf i).toNat)
    case atStart => exact ⟨0, Nat.zero_le _, rfl, HB.out, HR.out.symm⟩
    case round =>
      obtain ⟨k, hk, rfl, hbel, hE⟩ := hrel
      have HE := Lib.hid hE
      have HBL := Lib.hid hbel
      clear hE hbel
      by_cases hlt : k < n
      · have h1 : k < l.length := by rw [← HN1.out]; exact hlt
        have h2 : k < m.length := by rw [HN2.out]; exact hlt
        obtain ⟨eA, hr, _⟩ := H3.out (by omega)
        obtain ⟨eA', hr', _⟩ := H3'.out (by omega)
        subst eA
        subst eA'
        obtain ⟨⟨x0, x1, x2⟩, hnd⟩ := H4.out k h1
        obtain ⟨⟨y0, y1, y2⟩, hnd'⟩ := H4'.out k h2
        obtain ⟨ka, ta, Aa, na, ca, ea, eb, ec⟩ := hnd.form
        obtain ⟨kb, tb, Ab, nb, cb, fa, fb, fc⟩ := hnd'.form
        rw [ea] at x0 hnd; rw [eb] at x1 hnd; rw [ec] at x2 hnd
        rw [fa] at y0 hnd'; rw [fb] at y1 hnd'; rw [fc] at y2 hnd'
        have X0 := (HBL.out.cell (p := ⟨r, k * 3, none⟩) hr).trans x0
        have X1 := (HBL.out.cell (p := ⟨r, k * 3 + 1, none⟩) hr).trans x1
        have X2 := (HBL.out.cell (p := ⟨r, k * 3 + 2, none⟩) hr).trans x2
        have bb : ∀ o : Obj, Below wr.heap.size wr (wr.alloc o) := fun o => (Below.refl _ _).alloc (Nat.le_refl _) o
        have hrr : r' < wr.heap.size := Nat.lt_of_lt_of_le hr' HBL.out.size
        have Y0 := fun o : Obj => ((bb o).cell (p := ⟨r', k * 3, none⟩) hrr).trans ((HBL.out.cell (p := ⟨r', k * 3, none⟩) hr').trans y0)
        have Y1 := fun o : Obj => ((bb o).cell (p := ⟨r', k * 3 + 1, none⟩) hrr).trans ((HBL.out.cell (p := ⟨r', k * 3 + 1, none⟩) hr').trans y1)
        have Y2 := fun o : Obj => ((bb o).cell (p := ⟨r', k * 3 + 2, none⟩) hrr).trans ((HBL.out.cell (p := ⟨r', k * 3 + 2, none⟩) hr').trans y2)
        have hb2 : Below wr.heap.size wr ((wr.alloc (.cells #[.int .i64 ka, .string ta, .slice Aa na ca] 44)).alloc (.cells #[.int .i64 kb, .string tb, .slice Ab nb cb] 44)) := (bb _).alloc (by simp) _
        have hb3 := HBL.out.trans (hb2.mono HBL.out.size)
        have KC := hl l[k] (List.getElem_mem h1) m[k] P P' _ _ _ _ _ _ _ (hnd.keep (Q := P) hb3.size fun q hq hq2 => ⟨hq, fun j => hb3.cell (p := ⟨q, j, none⟩) hq2⟩) (hnd'.keep (Q := P') hb3.size fun q hq hq2 => ⟨hq, fun j => hb3.cell (p := ⟨q, j, none⟩) hq2⟩)
        have hst := eqL_step l m k h1 h2
        rw [HE.out] at hst
        have HST := Lib.hid hst
        have HKC := Lib.hid KC
        have HB3 := Lib.hid hb3
        clear hst KC hb3 hb2 hnd hnd' x0 x1 x2 y0 y1 y2 ea eb ec fa fb fc bb
        go_wp2_with fail
        refine HKC.out.mono ?_
        rintro e w2 ⟨rfl, hb4⟩
        have hb5 := HB3.out.trans (hb4.mono HB3.out.size)
        have HB5 := Lib.hid hb5
        clear hb4 hb5
        cases hq : eqT l[k] m[k]
        · have hR0 : R = false := by rw [HST.out, hq]; rfl
          subst hR0
          go_wp2
          go_ret
          exact ⟨rfl, HB5.out⟩
        · have hR1 : eqL (l.drop (k + 1)) (m.drop (k + 1)) = R := by rw [HST.out, hq]; rfl
          have HR1 := Lib.hid hR1
          clear hR1
          go_wp2
          go_roundw
          case rel => exact ⟨k + 1, by omega, by go_num, HB5.out, HR1.out⟩
          case measure => simp [intOf]; omega
      · have hR1 : R = true := by rw [← HE.out]; exact eqL_end l m k (by rw [← HN1.out]; omega) (by rw [HN2.out]; omega)
        subst hR1
        go_wp2
        go_ret
        exact ⟨rfl, HBL.out⟩
  · rw [eqL_len l m hlen]
    obtain ⟨A, cap, r, a, b, c, rfl, hcap, h3, h4⟩ := h
    obtain ⟨A', cap', r', a', b', c', rfl, hcap', h3', h4'⟩ := h'
    have e1 : ((l.length : Int) != (m.length : Int)) = true := by rw [bne_iff_ne]; omega
    clear h3 h4 h3' h4' hlen
    go_enter Try.func56, Try.ntmps56
    go_wp2
    go_ret
    exact ⟨rfl, Below.refl _ _⟩
end Go.Proofs.Ytppdemdjlhdfcaa.Sx
