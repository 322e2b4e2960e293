/-
  Layer 14: the reader of a tree's bytes: such, wrong, node.
-/
import Derived.Test.YtdknlifpoihnmaaTrD
import Derived.Test.YtdknlifpoihnmaaOctGet
namespace Go.Proofs.Ytdknlifpoihnmaa.Tr
open Go.RowKit
open Gn (Asks Sep)
open Oct (gb bs three get_any)
open Fx (IntsAt StrsAt Prd PG PrdsAt PgAt PgBox soundB sound_any)
set_option maxRecDepth 100000
set_option linter.unusedSimpArgs false
set_option linter.unusedVariables false

/-- The reader's block. -/
structure RdAt (Q : Nat → Prop) (W : World) (k : Nat) (g : PG) (An At_ Ap : Option Addr) (cn ct cp : Nat) (u : ByteArray) (nd : Nat) : Prop where
  box : W.heap[k]? = some (.cells #[.int .i64 g.start, .int .i64 g.rules, .slice An g.names.length cn, .slice At_ g.terms.length ct, .slice Ap g.prods.length cp, .string u, .int .i64 nd] 103 (0, 0))
  pg : PgAt Q W g (.agg #[.int .i64 g.start, .int .i64 g.rules, .slice An g.names.length cn, .slice At_ g.terms.length ct, .slice Ap g.prods.length cp])
  far : ∀ r, Q r → r ≠ k
section
variable {Q : Nat → Prop} {W W' : World} {k : Nat} {g : PG} {An At_ Ap : Option Addr} {cn ct cp : Nat} {u u' : ByteArray} {nd nd' : Nat}
theorem RdAt.under (h : RdAt Q W k g An At_ Ap cn ct cp u nd) (b : Below W.heap.size W W') : RdAt Q W' k g An At_ Ap cn ct cp u nd :=
  ⟨(b.block _ (Gn.heap_lt h.box)).trans h.box, h.pg.under b, h.far⟩
theorem RdAt.sep (h : RdAt Q W k g An At_ Ap cn ct cp u nd) (s : Sep k W.heap.size W W') (hb : W'.heap[k]? = some (.cells #[.int .i64 g.start, .int .i64 g.rules, .slice An g.names.length cn, .slice At_ g.terms.length ct, .slice Ap g.prods.length cp, .string u', .int .i64 nd'] 103 (0, 0))) : RdAt Q W' k g An At_ Ap cn ct cp u' nd' :=
  ⟨hb, h.pg.keep s.size (fun r hq hr => ⟨hq, fun j => Gn.cell_same (s.block r hr (h.far r hq)) j⟩), h.far⟩
end
/-- What a root must be. -/
def SuchAt (W : World) (k : Nat) (sv : Value) : Option Int → Prop
  | none => sv = .func (.func 71) #[] #[]
  | some y => ∃ B, sv = .func (.func 88) #[] #[.pointer (some ⟨B, 0, none⟩)] ∧ W.heap[B]? = some (.cells #[.int .i64 y] 3 (0, 0)) ∧ B ≠ k
def suchB : Option Int → Int → Bool
  | none, _ => true
  | some y, r => r == y
theorem SuchAt.under {W W' : World} {k : Nat} {sv : Value} {o : Option Int} (h : SuchAt W k sv o) (b : Below W.heap.size W W') : SuchAt W' k sv o := by
  cases o with
  | none => exact h
  | some y =>
    obtain ⟨B, h1, h2, h3⟩ := h
    exact ⟨B, h1, (b.block _ (Gn.heap_lt h2)).trans h2, h3⟩
theorem all_any (r : Int) (W : World) : Calls Try.prog 71 #[.int .i64 r] W fun e w' => e = .returned (.bool true) ∧ W = w' := by
  go_enter Try.func71, Try.ntmps71
  go_wp2
  go_ret
  exact ⟨rfl, rfl⟩
theorem just_any (r y : Int) (B : Nat) (W : World) (h : W.heap[B]? = some (.cells #[.int .i64 y] 3 (0, 0))) : Calls Try.prog 88 #[.int .i64 r, .pointer (some ⟨B, 0, none⟩)] W fun e w' => e = .returned (.bool (r == y)) ∧ W = w' := by
  have c := cell_of_row _ _ 0 _ _ (0, 0) h
  clear h
  go_enter Try.func88, Try.ntmps88
  go_wp2
  go_ret
  exact ⟨rfl, rfl⟩

def wrongT (g : PG) (o : Option Int) (n : Int) : Nat := if (rootT g n).2 = true then (if suchB o (rootT g n).1 = true then 0 else 7) else 10
set_option maxHeartbeats 2000000 in
theorem wrongn_any (Q : Nat → Prop) (W : World) (k : Nat) (g : PG) (hf : Fit g) (An At_ Ap : Option Addr) (cn ct cp : Nat) (u : ByteArray) (nd : Nat) (h : RdAt Q W k g An At_ Ap cn ct cp u nd) (o : Option Int) (sv : Value) (hs : SuchAt W k sv o) (n : Int) :
    Calls Try.prog 99 #[.pointer (some ⟨k, 0, none⟩), .int .i64 n, sv] W fun e w' => e = .returned (.int .i64 (wrongT g o n : Nat)) ∧ Below W.heap.size W w' := by
  have HKR := Lib.hid (rootOf_any g hf Q W _ h.pg n)
  have c0 := cell_of_row _ _ 0 _ _ (0, 0) h.box
  have c1 := cell_of_row _ _ 1 _ _ (0, 0) h.box
  have c2 := cell_of_row _ _ 2 _ _ (0, 0) h.box
  have c3 := cell_of_row _ _ 3 _ _ (0, 0) h.box
  have c4 := cell_of_row _ _ 4 _ _ (0, 0) h.box
  have HSU := Lib.hid (fun w (b : Below W.heap.size W w) => hs.under b)
  unfold wrongT
  generalize rootT g n = rt at HKR ⊢
  obtain ⟨ri, rb⟩ := rt
  simp only at HKR ⊢
  clear h
  cases rb
  · rw [if_neg (by decide)]
    cases o with
    | none =>
      subst hs
      go_enter Try.func99, Try.ntmps99
      go_wp2_with fail
      refine HKR.out.mono ?_
      rintro e w1 ⟨rfl, b1⟩
      go_wp2
      go_ret
      exact ⟨rfl, b1⟩
    | some y =>
      obtain ⟨B, rfl, hB, hBk⟩ := hs
      clear hB
      go_enter Try.func99, Try.ntmps99
      go_wp2_with fail
      refine HKR.out.mono ?_
      rintro e w1 ⟨rfl, b1⟩
      go_wp2
      go_ret
      exact ⟨rfl, b1⟩
  · rw [if_pos rfl]
    cases o with
    | none =>
      subst hs
      rw [show suchB none ri = true from rfl, if_pos rfl]
      go_enter Try.func99, Try.ntmps99
      go_wp2_with fail
      refine HKR.out.mono ?_
      rintro e w1 ⟨rfl, b1⟩
      have HB1 := Lib.hid b1
      clear b1
      go_wp2_with fail
      refine (all_any _ _).mono ?_
      rintro e w2 ⟨rfl, rfl⟩
      go_wp2
      go_ret
      exact ⟨rfl, HB1.out⟩
    | some y =>
      obtain ⟨B, rfl, hB, hBk⟩ := hs
      obtain ⟨d, hd⟩ : ∃ d, d = suchB (some y) ri := ⟨_, rfl⟩
      rw [← hd]
      have HD := Lib.hid (show d = (ri == y) from hd)
      clear hd
      have HBX := Lib.hid hB
      clear hB
      go_enter Try.func99, Try.ntmps99
      go_wp2_with fail
      refine HKR.out.mono ?_
      rintro e w1 ⟨rfl, b1⟩
      have HB1 := Lib.hid b1
      have HK2 := Lib.hid (just_any ri y B w1 ((b1.block _ (Gn.heap_lt HBX.out)).trans HBX.out))
      rw [← HD.out] at HK2
      clear b1
      go_wp2_with fail
      refine HK2.out.mono ?_
      rintro e w2 ⟨rfl, rfl⟩
      cases d
      · go_wp2
        go_ret
        exact ⟨rfl, HB1.out⟩
      · go_wp2
        go_ret
        exact ⟨rfl, HB1.out⟩

open Oct in
theorem gbe_le (l : List UInt8) : (gb l).2.2 ≤ 3 := by
  unfold gb
  split
  · simp
  · simp only
    split
    · simp
    · split
      · simp
      · split <;> simp
open Oct in
theorem gbt_le (l : List UInt8) (h : (gb l).2.2 = 0) : (gb l).2.1 ≤ l.length := by
  revert h
  unfold gb
  split
  · simp
  · simp only
    split
    · simp
    · split
      · simp
      · split
        · simp
        · simp only [List.length_cons]
          omega
/-- What node takes of bytes. -/
def nodeR (g : PG) (o : Option Int) (s : List UInt8) (nd : Nat) : Except Nat (Int × Nat) :=
  let e1 := if (gb s).2.2 = 0 then wrongT g o (gb s).1 else (gb s).2.2
  let e2 := if nd = 65536 ∧ e1 ≠ 10 ∧ e1 ≠ 7 then 6 else e1
  if e2 = 0 then .ok ((gb s).1, (gb s).2.1) else .error e2
/-- A throw. -/
def Threw (c : Nat) (e : Ending) : Prop := e = .panicked [{ v := .iface 60 (.int .i64 c), recovered := false }]
def NOut (Q : Nat → Prop) (W : World) (k : Nat) (g : PG) (An At_ Ap : Option Addr) (cn ct cp : Nat) (u : ByteArray) (nd : Nat) (R : Except Nat (Int × Nat)) (e : Ending) (w' : World) : Prop :=
  match R with
  | .error c => Threw c e ∧ Sep k W.heap.size W w'
  | .ok (n, j) => ∃ u' : ByteArray, e = .returned (.int .i64 n) ∧ bs u' = (bs u).drop j ∧ Sep k W.heap.size W w' ∧ RdAt Q w' k g An At_ Ap cn ct cp u' (nd + 1)
set_option maxHeartbeats 4000000 in
theorem node_any (Q : Nat → Prop) (W : World) (k : Nat) (g : PG) (hf : Fit g) (An At_ Ap : Option Addr) (cn ct cp : Nat) (u : ByteArray) (hu : u.size ≤ 9223372036854775807) (nd : Nat) (hnd : nd ≤ 65536) (h : RdAt Q W k g An At_ Ap cn ct cp u nd) (o : Option Int) (sv : Value) (hs : SuchAt W k sv o) :
    Calls Try.prog 87 #[.pointer (some ⟨k, 0, none⟩), sv] W (NOut Q W k g An At_ Ap cn ct cp u nd (nodeR g o (bs u) nd)) := by
  have HKG := Lib.hid (get_any u W hu)
  have HKW := Lib.hid (fun n => wrongn_any Q W k g hf An At_ Ap cn ct cp u nd h o sv hs n)
  obtain ⟨⟨n, j, c⟩, hq⟩ : ∃ q, gb (bs u) = q := ⟨_, rfl⟩
  have hql : c = 0 → j ≤ u.size := fun h0 => by have := gbt_le (bs u); rw [hq] at this; exact this h0
  have hqe : c ≤ 3 := by have := gbe_le (bs u); rw [hq] at this; exact this
  rw [hq] at HKG
  unfold three at HKG
  simp only at HKG
  have HRD := Lib.hid h
  have hbx := h.box
  have HU := Lib.hid hu
  have hR : nodeR g o (bs u) nd = (let e1 := if c = 0 then wrongT g o n else c
    let e2 := if nd = 65536 ∧ e1 ≠ 10 ∧ e1 ≠ 7 then 6 else e1
    if e2 = 0 then .ok (n, j) else .error e2) := by unfold nodeR; rw [hq]
  obtain ⟨R, hRR⟩ : ∃ R, R = nodeR g o (bs u) nd := ⟨_, rfl⟩
  rw [← hRR]
  rw [hR] at hRR
  have HR := Lib.hid hRR
  clear hq h hR hu hRR
  have c5 := cell_of_row _ _ 5 _ _ (0, 0) hbx
  have c6 := cell_of_row _ _ 6 _ _ (0, 0) hbx
  have HWS := Lib.hid (fun w (b : Below W.heap.size W w) => Sep.of_below (g := k) b)
  have SVF : ∃ f ca, sv = .func (.func f) #[] ca := by
    cases o with
    | none => exact ⟨_, _, hs⟩
    | some y => obtain ⟨B, rfl, _⟩ := hs; exact ⟨_, _, rfl⟩
  obtain ⟨sf, sc, rfl⟩ := SVF
  clear hs
  by_cases hc : c = 0
  · subst hc
    have hjl := hql rfl
    have hw : wrongT g o n = 0 ∨ wrongT g o n = 7 ∨ wrongT g o n = 10 := by
      unfold wrongT
      split
      · split
        · exact .inl rfl
        · exact .inr (.inl rfl)
      · exact .inr (.inr rfl)
    have HKW1 := Lib.hid (HKW.out n)
    clear HKW hql
    generalize wrongT g o n = wv at hw HKW1 HR
    go_enter Try.func87, Try.ntmps87
    go_wp2_with fail
    refine HKG.out.mono ?_
    rintro e w1 ⟨rfl, rfl⟩
    go_wp2_with fail
    refine HKW1.out.mono ?_
    rintro e w2 ⟨rfl, b2⟩
    have HRD2 := Lib.hid (HRD.out.under b2)
    have HB2 := Lib.hid b2
    have hbx2 := HRD2.out.box
    have d5 := cell_of_row _ _ 5 _ _ (0, 0) hbx2
    have d6 := cell_of_row _ _ 6 _ _ (0, 0) hbx2
    have f5 := frozen_of_row w2 k 5 _ _ hbx2
    have f6 := frozen_of_row w2 k 6 _ _ hbx2
    clear b2 hbx hbx2 c5 c6
    rcases hw with rfl | rfl | rfl
    · by_cases h6 : nd = 65536
      · have hR2 : R = .error 6 := by rw [HR.out]; simp [h6]
        subst h6 hR2
        go_wp2
        exact ⟨rfl, rfl, HWS.out _ HB2.out⟩
      · have e6 : ((nd : Int) == 65536) = false := by rw [beq_eq_false_iff_ne]; omega
        have hR2 : R = .ok (n, j) := by rw [HR.out]; simp [h6]
        subst hR2
        clear h6
        have hn6 : nd ≤ 65536 := hnd
        obtain ⟨u2, hu2⟩ : ∃ u2, u2 = u.extract j u.size := ⟨_, rfl⟩
        have HU2 := Lib.hid (show bs u2 = (bs u).drop j by rw [hu2]; exact Lib.extract_to_end u j)
        have hb6 := Gn.heap_set (Gn.heap_set HRD2.out.box 5 (.string u2)) 6 (.int .i64 ((nd + 1 : Nat) : Int))
        have hsp : Sep k W.heap.size W ((w2.setCell ⟨k, 5, none⟩ (.string u2)).setCell ⟨k, 6, none⟩ (.int .i64 ((nd + 1 : Nat) : Int))) := ((HWS.out _ HB2.out).setCell (.inl rfl) _).setCell (.inl rfl) _
        have HFIN := Lib.hid (show NOut Q W k g An At_ Ap cn ct cp u nd (.ok (n, j)) (.returned (.int .i64 n)) ((w2.setCell ⟨k, 5, none⟩ (.string u2)).setCell ⟨k, 6, none⟩ (.int .i64 ((nd + 1 : Nat) : Int))) from ⟨u2, rfl, HU2.out, hsp, HRD.out.sep hsp hb6⟩)
        clear hb6 hsp
        go_wp2
        rw [← hu2]
        go_ret
        exact HFIN.out
    · have e6 : ((nd : Int) == 65536) = true ∨ ((nd : Int) == 65536) = false := by cases ((nd : Int) == 65536) <;> simp
      have hR2 : R = .error 7 := by rw [HR.out]; simp
      subst hR2
      rcases e6 with e6 | e6
      · go_wp2
        exact ⟨rfl, rfl, HWS.out _ HB2.out⟩
      · go_wp2
        exact ⟨rfl, rfl, HWS.out _ HB2.out⟩
    · have e6 : ((nd : Int) == 65536) = true ∨ ((nd : Int) == 65536) = false := by cases ((nd : Int) == 65536) <;> simp
      have hR2 : R = .error 10 := by rw [HR.out]; simp
      subst hR2
      rcases e6 with e6 | e6
      · go_wp2
        exact ⟨rfl, rfl, HWS.out _ HB2.out⟩
      · go_wp2
        exact ⟨rfl, rfl, HWS.out _ HB2.out⟩
  · have e0 : ((c : Int) == 0) = false := by rw [beq_eq_false_iff_ne]; omega
    have e1 : ((c : Int) != 0) = true := by rw [bne_iff_ne]; omega
    have e7 : ((c : Int) != 7) = true := by rw [bne_iff_ne]; omega
    have e10 : ((c : Int) != 10) = true := by rw [bne_iff_ne]; omega
    by_cases h6 : nd = 65536
    · have hR2 : R = .error 6 := by
        have h10 : c ≠ 10 := by omega
        have h7 : c ≠ 7 := by omega
        rw [HR.out]; simp [hc, h6, h10, h7]
      subst h6 hR2
      clear HKW hql hc
      go_enter Try.func87, Try.ntmps87
      go_wp2_with fail
      refine HKG.out.mono ?_
      rintro e w1 ⟨rfl, rfl⟩
      go_wp2
      exact ⟨rfl, rfl, Sep.refl _ _ _⟩
    · have e6 : ((nd : Int) == 65536) = false := by rw [beq_eq_false_iff_ne]; omega
      have hR2 : R = .error c := by rw [HR.out]; simp [hc, h6]
      subst hR2
      clear HKW hql hc h6
      go_enter Try.func87, Try.ntmps87
      go_wp2_with fail
      refine HKG.out.mono ?_
      rintro e w1 ⟨rfl, rfl⟩
      go_wp2
      exact ⟨rfl, rfl, Sep.refl _ _ _⟩
end Go.Proofs.Ytdknlifpoihnmaa.Tr
