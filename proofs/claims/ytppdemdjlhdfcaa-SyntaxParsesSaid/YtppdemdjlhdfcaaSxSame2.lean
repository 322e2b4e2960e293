/-
  Whether two rules, two grammars are the same.
-/
import Derived.Test.YtppdemdjlhdfcaaSxSame
namespace Go.Proofs.Ytppdemdjlhdfcaa.Sx
open Go.RowKit
set_option maxRecDepth 100000

/-- A tree of which no node has more kids than that. -/
inductive SmT : Tree → Prop
  | mk (k : Nat) (t : List UInt8) (l : List Tree) (h : l.length ≤ 1048576) (hl : ∀ a ∈ l, SmT a) : SmT (.node k t l)
theorem NdsAt.form {P : Nat → Prop} {W : World} {l : List Tree} {v : Value} (h : NdsAt P W l v) : ∃ A cap, v = .slice A l.length cap := by
  obtain ⟨A, cap, r, a, b, c, h1, _⟩ := h
  exact ⟨A, cap, h1⟩
theorem RlsAt.form {P : Nat → Prop} {W : World} {l : List Rul} {v : Value} (h : RlsAt P W l v) : ∃ A cap, v = .slice A l.length cap := by
  obtain ⟨A, cap, r, a, b, c, h1, _⟩ := h
  exact ⟨A, cap, h1⟩
theorem text_eq (t t' : List UInt8) : ((Lx.mk t).toList == (Lx.mk t').toList) = decide (t = t') := by
  rw [Lib.toList_data, Lib.toList_data, Bool.eq_iff_iff]
  simp [Lx.mk]

set_option maxHeartbeats 4000000 in
theorem same_node {t : Tree} (h : SmT t) : SameCtr t := by
  induction h with
  | mk k tx l hlen hl ih =>
    intro t' P P' W x y z x' y' z' h h'
    cases t' with
    | node k' tx' l' =>
      obtain ⟨rfl, rfl, hz⟩ := h.open_
      obtain ⟨rfl, rfl, hz'⟩ := h'.open_
      have KE := fun w (b : Below W.heap.size W w) => equal_nodes l l' ih P P' w z z' (hz.under b) (hz'.under b) (by omega)
      obtain ⟨A, cap, rfl⟩ := hz.form
      obtain ⟨A', cap', rfl⟩ := hz'.form
      have hs := text_eq tx tx'
      obtain ⟨s, hs1⟩ : ∃ s, s = Lx.mk tx := ⟨_, rfl⟩
      obtain ⟨s', hs2⟩ : ∃ s', s' = Lx.mk tx' := ⟨_, rfl⟩
      rw [← hs1, ← hs2] at hs
      rw [← hs1, ← hs2]
      have hb : Below W.heap.size W ((W.alloc (.cells #[.int .i64 k, .string s, .slice A l.length cap] 44)).alloc (.cells #[.int .i64 k', .string s', .slice A' l'.length cap'] 44)) := ((Below.refl _ _).alloc (Nat.le_refl _) _).alloc (by simp) _
      by_cases hk : k = k'
      · have e1 : ((k : Int) == (k' : Int)) = true := by rw [beq_iff_eq]; omega
        by_cases ht : tx = tx'
        · have e2 : (s.toList == s'.toList) = true := by rw [hs, decide_eq_true ht]
          rw [show eqT (.node k tx l) (.node k' tx' l') = eqL l l' by rw [eqT, decide_eq_true hk, decide_eq_true ht]; rfl]
          have HK := Lib.hid (KE _ hb)
          have HB := Lib.hid hb
          generalize eqL l l' = R at HK ⊢
          clear KE hb hs hs1 hs2 hk ht hz hz' h h'
          go_enter Try.func39, Try.ntmps39
          go_wp2_with fail
          refine HK.out.mono ?_
          rintro e w2 ⟨rfl, b2⟩
          have hfin := HB.out.trans (b2.mono HB.out.size)
          have HF := Lib.hid hfin
          clear b2 hfin
          go_wp2
          go_ret
          exact ⟨rfl, HF.out⟩
        · have e2 : (s.toList == s'.toList) = false := by rw [hs, decide_eq_false ht]
          rw [show eqT (.node k tx l) (.node k' tx' l') = false by rw [eqT, decide_eq_false ht]; simp]
          have HB := Lib.hid hb
          clear KE hb hs hs1 hs2 hk ht hz hz' h h'
          go_enter Try.func39, Try.ntmps39
          go_wp2
          go_ret
          exact ⟨rfl, HB.out⟩
      · have e1 : ((k : Int) == (k' : Int)) = false := by rw [beq_eq_false_iff_ne]; omega
        rw [show eqT (.node k tx l) (.node k' tx' l') = false by rw [eqT, decide_eq_false hk]; simp]
        have HB := Lib.hid hb
        clear KE hb hs hs1 hs2 hk hz hz' h h'
        go_enter Try.func39, Try.ntmps39
        go_wp2
        go_ret
        exact ⟨rfl, HB.out⟩

def eqR (r r' : Rul) : Bool := decide (r.1 = r'.1) && eqT r.2 r'.2
def eqRs : List Rul → List Rul → Bool
  | [], [] => true
  | a :: l, b :: m => eqR a b && eqRs l m
  | [], _ :: _ => false
  | _ :: _, [] => false
theorem eqRs_len : ∀ l m : List Rul, l.length ≠ m.length → eqRs l m = false
  | [], [], h => absurd rfl h
  | [], _ :: _, _ => by rw [eqRs]
  | _ :: _, [], _ => by rw [eqRs]
  | a :: l, b :: m, h => by rw [eqRs, eqRs_len l m (by simpa using h), Bool.and_false]
theorem eqRs_step (l m : List Rul) (k : Nat) (h1 : k < l.length) (h2 : k < m.length) : eqRs (l.drop k) (m.drop k) = (eqR l[k] m[k] && eqRs (l.drop (k + 1)) (m.drop (k + 1))) := by
  rw [List.drop_eq_getElem_cons h1, List.drop_eq_getElem_cons h2, eqRs]
theorem eqRs_end (l m : List Rul) (k : Nat) (h1 : l.length ≤ k) (h2 : m.length ≤ k) : eqRs (l.drop k) (m.drop k) = true := by
  rw [List.drop_eq_nil_of_le h1, List.drop_eq_nil_of_le h2, eqRs]
theorem eqR_iff (r r' : Rul) : eqR r r' = true ↔ r = r' := by
  obtain ⟨n, t⟩ := r
  obtain ⟨n', t'⟩ := r'
  unfold eqR
  simp [eqT_iff]
theorem eqRs_iff : ∀ l m : List Rul, eqRs l m = true ↔ l = m
  | [], [] => by simp [eqRs]
  | [], _ :: _ => by simp [eqRs]
  | _ :: _, [] => by simp [eqRs]
  | a :: l, b :: m => by
    rw [eqRs]
    simp only [Bool.and_eq_true, eqR_iff a b, eqRs_iff l m, List.cons.injEq]
/-- sameRule answers as it should of this rule and any other one. -/
def RuleCtr (r : Rul) : Prop := ∀ (r' : Rul) (P P' : Nat → Prop) (W : World) (x y z x' y' z' : Value), Nd P W r.2 x y z → Nd P' W r'.2 x' y' z' →
  Calls Try.prog 26 #[.agg #[.string (Lx.mk r.1), x, y, z], .agg #[.string (Lx.mk r'.1), x', y', z']] W (Asks (eqR r r') W)

set_option maxHeartbeats 4000000 in
theorem same_rule {r : Rul} (h : SmT r.2) : RuleCtr r := by
  intro r' P P' W x y z x' y' z' h1 h2
  obtain ⟨n, t⟩ := r
  obtain ⟨n', t'⟩ := r'
  simp only at h h1 h2 ⊢
  have KE := fun w (b : Below W.heap.size W w) => same_node h t' P P' w x y z x' y' z' (h1.under b) (h2.under b)
  obtain ⟨ka, ta, Aa, na, ca, rfl, rfl, rfl⟩ := h1.form
  obtain ⟨kb, tb, Ab, nb, cb, rfl, rfl, rfl⟩ := h2.form
  have hs := text_eq n n'
  obtain ⟨s, hs1⟩ : ∃ s, s = Lx.mk n := ⟨_, rfl⟩
  obtain ⟨s', hs2⟩ : ∃ s', s' = Lx.mk n' := ⟨_, rfl⟩
  rw [← hs1, ← hs2] at hs
  rw [← hs1, ← hs2]
  have hb : Below W.heap.size W ((W.alloc (.cells #[.string s, .int .i64 ka, .string ta, .slice Aa na ca] 46)).alloc (.cells #[.string s', .int .i64 kb, .string tb, .slice Ab nb cb] 46)) := ((Below.refl _ _).alloc (Nat.le_refl _) _).alloc (by simp) _
  by_cases ht : n = n'
  · have e2 : (s.toList == s'.toList) = true := by rw [hs, decide_eq_true ht]
    rw [show eqR (n, t) (n', t') = eqT t t' by unfold eqR; simp only; rw [decide_eq_true ht]; rfl]
    have HK := Lib.hid (KE _ hb)
    have HB := Lib.hid hb
    generalize eqT t t' = R at HK ⊢
    clear KE hb hs hs1 hs2 ht h1 h2 h
    go_enter Try.func26, Try.ntmps26
    go_wp2_with fail
    refine HK.out.mono ?_
    rintro e w2 ⟨rfl, b2⟩
    have hfin := HB.out.trans (b2.mono HB.out.size)
    have HF := Lib.hid hfin
    clear b2 hfin
    go_wp2
    go_ret
    exact ⟨rfl, HF.out⟩
  · have e2 : (s.toList == s'.toList) = false := by rw [hs, decide_eq_false ht]
    rw [show eqR (n, t) (n', t') = false by unfold eqR; simp only; rw [decide_eq_false ht]; rfl]
    have HB := Lib.hid hb
    clear KE hb hs hs1 hs2 ht h1 h2 h
    go_enter Try.func26, Try.ntmps26
    go_wp2
    go_ret
    exact ⟨rfl, HB.out⟩

set_option maxHeartbeats 4000000 in
theorem equal_rules (l m : List Rul) (hl : ∀ a ∈ l, RuleCtr a) (P P' : Nat → Prop) (W : World) (v v' : Value) (h : RlsAt P W l v) (h' : RlsAt P' W m v') (hn : l.length ≤ 4611686018427387904) :
    Calls Try.prog 25 #[v, v', .func (.func 26) #[] #[]] W (Asks (eqRs l m) W) := by
  by_cases hlen : l.length = m.length
  · obtain ⟨A, cap, r, a, b, c, rfl, hcap, h3, h4⟩ := h
    obtain ⟨A', cap', r', a', b', c', rfl, hcap', h3', h4'⟩ := h'
    obtain ⟨R, hR⟩ : ∃ R, R = eqRs l m := ⟨_, rfl⟩
    rw [← hR]
    have HR := Lib.hid hR
    have e1 : ((l.length : Int) != (m.length : Int)) = false := by rw [bne_eq_false_iff_eq]; omega
    obtain ⟨n, hn1⟩ : ∃ n, n = l.length := ⟨_, rfl⟩
    have hn2 : m.length = n := by omega
    rw [← hn1] at e1 hcap h3 hn ⊢
    rw [hn2] at e1 hcap' h3' ⊢
    have HN1 := Lib.hid hn1
    have HN2 := Lib.hid hn2
    have H3 := Lib.hid h3
    have H4 := Lib.hid h4
    have H3' := Lib.hid h3'
    have H4' := Lib.hid h4'
    have HB := Lib.hid (Below.refl W.heap.size W)
    clear hR hn1 hn2 h3 h4 h3' h4' hlen
    go_enter Try.func25, Try.ntmps25
    go_wp2
    go_loopw [17] (fun i wr => ∃ k : Nat, k ≤ n ∧ i = .int .i64 k ∧ Below W.heap.size W wr ∧ eqRs (l.drop k) (m.drop k) = R) (fun i _ => n - (intOf i).toNat)
    case atStart => exact ⟨0, Nat.zero_le _, rfl, HB.out, HR.out.symm⟩
    case round =>
      obtain ⟨k, hk, rfl, hbel, hE⟩ := hrel
      have HE := Lib.hid hE
      have HBL := Lib.hid hbel
      clear hE hbel
      by_cases hlt : k < n
      · have h1 : k < l.length := by rw [← HN1.out]; exact hlt
        have h2 : k < m.length := by rw [HN2.out]; exact hlt
        obtain ⟨eA, hr, _⟩ := H3.out (by omega)
        obtain ⟨eA', hr', _⟩ := H3'.out (by omega)
        subst eA
        subst eA'
        obtain ⟨⟨xn, x0, x1, x2⟩, hnd⟩ := H4.out k h1
        obtain ⟨⟨yn, y0, y1, y2⟩, hnd'⟩ := H4'.out k h2
        obtain ⟨ka, ta, Aa, na, ca, ea, eb, ec⟩ := hnd.form
        obtain ⟨kb, tb, Ab, nb, cb, fa, fb, fc⟩ := hnd'.form
        rw [ea] at x0 hnd; rw [eb] at x1 hnd; rw [ec] at x2 hnd
        rw [fa] at y0 hnd'; rw [fb] at y1 hnd'; rw [fc] at y2 hnd'
        have XN := (HBL.out.cell (p := ⟨r, k * 4, none⟩) hr).trans xn
        have X0 := (HBL.out.cell (p := ⟨r, k * 4 + 1, none⟩) hr).trans x0
        have X1 := (HBL.out.cell (p := ⟨r, k * 4 + 2, none⟩) hr).trans x1
        have X2 := (HBL.out.cell (p := ⟨r, k * 4 + 3, none⟩) hr).trans x2
        have bb : ∀ o : Obj, Below wr.heap.size wr (wr.alloc o) := fun o => (Below.refl _ _).alloc (Nat.le_refl _) o
        have hrr : r' < wr.heap.size := Nat.lt_of_lt_of_le hr' HBL.out.size
        have YN := fun o : Obj => ((bb o).cell (p := ⟨r', k * 4, none⟩) hrr).trans ((HBL.out.cell (p := ⟨r', k * 4, none⟩) hr').trans yn)
        have Y0 := fun o : Obj => ((bb o).cell (p := ⟨r', k * 4 + 1, none⟩) hrr).trans ((HBL.out.cell (p := ⟨r', k * 4 + 1, none⟩) hr').trans y0)
        have Y1 := fun o : Obj => ((bb o).cell (p := ⟨r', k * 4 + 2, none⟩) hrr).trans ((HBL.out.cell (p := ⟨r', k * 4 + 2, none⟩) hr').trans y1)
        have Y2 := fun o : Obj => ((bb o).cell (p := ⟨r', k * 4 + 3, none⟩) hrr).trans ((HBL.out.cell (p := ⟨r', k * 4 + 3, none⟩) hr').trans y2)
        have hb2 : Below wr.heap.size wr ((wr.alloc (.cells #[.string (Lx.mk l[k].1), .int .i64 ka, .string ta, .slice Aa na ca] 46)).alloc (.cells #[.string (Lx.mk m[k].1), .int .i64 kb, .string tb, .slice Ab nb cb] 46)) := (bb _).alloc (by simp) _
        have hb3 := HBL.out.trans (hb2.mono HBL.out.size)
        have KC := hl l[k] (List.getElem_mem h1) m[k] P P' _ _ _ _ _ _ _ (hnd.keep (Q := P) hb3.size fun q hq hq2 => ⟨hq, fun j => hb3.cell (p := ⟨q, j, none⟩) hq2⟩) (hnd'.keep (Q := P') hb3.size fun q hq hq2 => ⟨hq, fun j => hb3.cell (p := ⟨q, j, none⟩) hq2⟩)
        have hst := eqRs_step l m k h1 h2
        rw [HE.out] at hst
        have HST := Lib.hid hst
        have HKC := Lib.hid KC
        have HB3 := Lib.hid hb3
        obtain ⟨nx, hnx⟩ : ∃ nx, nx = Lx.mk l[k].1 := ⟨_, rfl⟩
        obtain ⟨ny, hny⟩ : ∃ ny, ny = Lx.mk m[k].1 := ⟨_, rfl⟩
        rw [← hnx] at XN HKC HB3
        rw [← hny] at YN HKC HB3
        clear hst KC hb3 hb2 hnd hnd' xn x0 x1 x2 yn y0 y1 y2 ea eb ec fa fb fc bb hnx hny
        go_wp2_with fail
        refine HKC.out.mono ?_
        rintro e w2 ⟨rfl, hb4⟩
        have hb5 := HB3.out.trans (hb4.mono HB3.out.size)
        have HB5 := Lib.hid hb5
        clear hb4 hb5
        cases hq : eqR l[k] m[k]
        · have hR0 : R = false := by rw [HST.out, hq]; rfl
          subst hR0
          go_wp2
          go_ret
          exact ⟨rfl, HB5.out⟩
        · have hR1 : eqRs (l.drop (k + 1)) (m.drop (k + 1)) = R := by rw [HST.out, hq]; rfl
          have HR1 := Lib.hid hR1
          clear hR1
          go_wp2
          go_roundw
          case rel => exact ⟨k + 1, by omega, by go_num, HB5.out, HR1.out⟩
          case measure => simp [intOf]; omega
      · have hR1 : R = true := by rw [← HE.out]; exact eqRs_end l m k (by rw [← HN1.out]; omega) (by rw [HN2.out]; omega)
        subst hR1
        go_wp2
        go_ret
        exact ⟨rfl, HBL.out⟩
  · rw [eqRs_len l m hlen]
    obtain ⟨A, cap, r, a, b, c, rfl, hcap, h3, h4⟩ := h
    obtain ⟨A', cap', r', a', b', c', rfl, hcap', h3', h4'⟩ := h'
    have e1 : ((l.length : Int) != (m.length : Int)) = true := by rw [bne_iff_ne]; omega
    clear h3 h4 h3' h4' hlen
    go_enter Try.func25, Try.ntmps25
    go_wp2
    go_ret
    exact ⟨rfl, Below.refl _ _⟩

set_option maxHeartbeats 4000000 in
theorem same_any (s s' : List UInt8) (l l' : List Rul) (hl : ∀ r ∈ l, SmT r.2) (P P' : Nat → Prop) (W : World) (v v' : Value) (h : RlsAt P W l v) (h' : RlsAt P' W l' v') (hn : l.length ≤ 4611686018427387904) :
    Calls Try.prog 10 #[.agg #[.string (Lx.mk s), v], .agg #[.string (Lx.mk s'), v']] W (Asks (decide (s = s') && eqRs l l') W) := by
  have KE := fun w (b : Below W.heap.size W w) => equal_rules l l' (fun r hr => same_rule (hl r hr)) P P' w v v' (h.under b) (h'.under b) hn
  obtain ⟨A, cap, rfl⟩ := h.form
  obtain ⟨A', cap', rfl⟩ := h'.form
  have hs := text_eq s s'
  obtain ⟨n, hs1⟩ : ∃ n, n = Lx.mk s := ⟨_, rfl⟩
  obtain ⟨n', hs2⟩ : ∃ n', n' = Lx.mk s' := ⟨_, rfl⟩
  rw [← hs1, ← hs2] at hs
  rw [← hs1, ← hs2]
  have hb : Below W.heap.size W ((W.alloc (.cells #[.string n, .slice A l.length cap] 25)).alloc (.cells #[.string n', .slice A' l'.length cap'] 25)) := ((Below.refl _ _).alloc (Nat.le_refl _) _).alloc (by simp) _
  by_cases ht : s = s'
  · have e2 : (n.toList == n'.toList) = true := by rw [hs, decide_eq_true ht]
    rw [decide_eq_true ht, Bool.true_and]
    have HK := Lib.hid (KE _ hb)
    have HB := Lib.hid hb
    generalize eqRs l l' = R at HK ⊢
    clear KE hb hs hs1 hs2 ht h h'
    go_enter Try.func10, Try.ntmps10
    go_wp2_with fail
    refine HK.out.mono ?_
    rintro e w2 ⟨rfl, b2⟩
    have hfin := HB.out.trans (b2.mono HB.out.size)
    have HF := Lib.hid hfin
    clear b2 hfin
    go_wp2
    go_ret
    exact ⟨rfl, HF.out⟩
  · have e2 : (n.toList == n'.toList) = false := by rw [hs, decide_eq_false ht]
    rw [decide_eq_false ht, Bool.false_and]
    have HB := Lib.hid hb
    clear KE hb hs hs1 hs2 ht h h'
    go_enter Try.func10, Try.ntmps10
    go_wp2
    go_ret
    exact ⟨rfl, HB.out⟩
end Go.Proofs.Ytppdemdjlhdfcaa.Sx
