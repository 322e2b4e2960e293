/-
  Layer 18: Teaches; is there a class of a teacher's.
-/
import Derived.Test.YtnmhgjoofgmcgaaGreatRlAny
import Derived.Test.YtnmhgjoofgmcgaaGreatRlBin
import Derived.Test.YtnmhgjoofgmcgaaGreatRlEnrol
namespace Go.Proofs.YtnmhgjoofgmcgaaGreat.Rl
open Go.RowKit
open Fx (StrsAt)
set_option maxRecDepth 100000
set_option linter.unusedSimpArgs false
set_option linter.unusedVariables false
theorem cell_lt {w : World} {b o : Nat} {u : Value} (h : w.cell? ⟨b, o, none⟩ = some u) : b < w.heap.size := by
  rcases Nat.lt_or_ge b w.heap.size with h' | h'
  · exact h'
  · simp [World.cell?, Array.getElem?_eq_none h'] at h
theorem list_inj {a b : ByteArray} (h : a.toList = b.toList) : a = b := by
  rw [Lib.toList_data, Lib.toList_data] at h
  cases a; cases b
  simpa using h
theorem str_list (a b : ByteArray) : (a.toList == b.toList) = decide (a = b) := by
  rw [Bool.eq_iff_iff]
  simp only [beq_iff_eq, decide_eq_true_eq]
  exact ⟨list_inj, fun e => by rw [e]⟩
set_option maxHeartbeats 2000000 in
theorem teach1_any (nm tc : ByteArray) (sv : Value) (l : List ByteArray) (t s : ByteArray) (P : Nat → Prop) (w : World) (b1 b2 : Nat) (h1 : w.cell? ⟨b1, 0, none⟩ = some (.string t)) (h2 : w.cell? ⟨b2, 0, none⟩ = some (.string s)) (hst : StrsAt P w l sv) (hr : Rising l) (hn : l.length ≤ 4096) :
    Calls Tryz.prog 51 #[.agg #[.string nm, .string tc, sv], .pointer (some ⟨b1, 0, none⟩), .pointer (some ⟨b2, 0, none⟩)] w fun e w' => e = .returned (.bool (decide (tc = t) && hasN l s)) ∧ Below w.heap.size w w' := by
  obtain ⟨A, cap, rfl⟩ := hst.form
  obtain ⟨n, hnn⟩ : ∃ n, n = l.length := ⟨_, rfl⟩
  rw [← hnn] at hst ⊢
  obtain ⟨V, hV⟩ : ∃ V, V = w.alloc (.cells #[.string nm, .string tc, .slice A n cap] 53) := ⟨_, rfl⟩
  have hb : Below w.heap.size w V := by rw [hV]; exact (Below.refl _ w).alloc (Nat.le_refl _) _
  have hx : V.heap[w.heap.size]? = some (.cells #[.string nm, .string tc, .slice A n cap] 53 (0, 0)) := by rw [hV]; exact heap_alloc_new w _
  have c1 := (hb.cell (p := ⟨b1, 0, none⟩) (cell_lt h1)).trans h1
  have c2 := (hb.cell (p := ⟨b2, 0, none⟩) (cell_lt h2)).trans h2
  have x0 := cell_of_row _ _ 0 _ _ (0, 0) hx
  have x1 := cell_of_row _ _ 1 _ _ (0, 0) hx
  have x2 := cell_of_row _ _ 2 _ _ (0, 0) hx
  have HH := Lib.hid (has_any nm tc l s P V (.slice A n cap) (hst.under hb) hr hn)
  have HV := Lib.hid hV
  have HB := Lib.hid hb
  by_cases e : tc = t
  · rw [decide_eq_true e]
    subst e
    clear hV hb hx h1 h2 hst hr hn hnn
    go_enter Tryz.func51, Tryz.ntmps51
    go_upto_region 1 with fail
    rw [← HV.out]
    go_wp2_with fail
    refine HH.out.mono ?_
    rintro e w2 ⟨rfl, hb2⟩
    have HB2 := Lib.hid (HB.out.trans (hb2.mono HB.out.size))
    clear hb2
    go_wp2_with fail
    go_ret
    exact ⟨by simp, HB2.out⟩
  · rw [decide_eq_false e]
    have hne : ¬ tc.toList = t.toList := fun h => e (list_inj h)
    clear hV hb hx h1 h2 hst hr hn hnn e HH
    go_enter Tryz.func51, Tryz.ntmps51
    go_upto_region 1 with fail
    rw [← HV.out]
    go_wp2_with fail
    go_ret
    exact ⟨by simp, HB.out⟩
set_option maxHeartbeats 2000000 in
theorem leave1_any (nm tc : ByteArray) (sv : Value) (A : Option Addr) (n cap : Nat) (hsv : sv = .slice A n cap) (t : ByteArray) (w : World) (b1 : Nat) (h1 : w.cell? ⟨b1, 0, none⟩ = some (.string t)) :
    Calls Tryz.prog 58 #[.agg #[.string nm, .string tc, sv], .pointer (some ⟨b1, 0, none⟩)] w fun e w' => e = .returned (.bool (decide (tc = t))) ∧ Below w.heap.size w w' := by
  subst hsv
  obtain ⟨V, hV⟩ : ∃ V, V = w.alloc (.cells #[.string nm, .string tc, .slice A n cap] 53) := ⟨_, rfl⟩
  have hb : Below w.heap.size w V := by rw [hV]; exact (Below.refl _ w).alloc (Nat.le_refl _) _
  have hx : V.heap[w.heap.size]? = some (.cells #[.string nm, .string tc, .slice A n cap] 53 (0, 0)) := by rw [hV]; exact heap_alloc_new w _
  have c1 := (hb.cell (p := ⟨b1, 0, none⟩) (cell_lt h1)).trans h1
  have x1 := cell_of_row _ _ 1 _ _ (0, 0) hx
  have HV := Lib.hid hV
  have HB := Lib.hid hb
  clear hV hb hx h1
  go_enter Tryz.func58, Tryz.ntmps58
  go_upto_region 1 with fail
  rw [← HV.out]
  go_wp2_with fail
  go_ret
  exact ⟨congrArg (fun b => Ending.returned (Value.bool b)) (str_list tc t), HB.out⟩
theorem any_row (cs : List Cls) (f : Cls → Bool) (n : Nat) (hn : n = cs.length) (d : Cls) : ((List.range n).any fun i => f (cs.getD i d)) = cs.any f := by
  subst hn
  rw [Bool.eq_iff_iff, List.any_eq_true, List.any_eq_true]
  constructor
  · rintro ⟨i, hi, h⟩
    have hi2 := List.mem_range.1 hi
    rw [List.getD_eq_getElem?_getD, List.getElem?_eq_getElem hi2] at h
    exact ⟨_, List.getElem_mem hi2, h⟩
  · rintro ⟨c, hc, h⟩
    obtain ⟨i, hi, rfl⟩ := List.mem_iff_getElem.1 hc
    refine ⟨i, List.mem_range.2 hi, ?_⟩
    rw [List.getD_eq_getElem?_getD, List.getElem?_eq_getElem hi]
    exact h
def teachesM (r : Rol) (t s : ByteArray) : Bool := r.cs.any fun c => decide (c.teacher = t) && hasN c.studs s
def nilC : Cls := ⟨⟨#[]⟩, ⟨#[]⟩, []⟩
set_option maxHeartbeats 4000000 in
theorem teaches_any (r : Rol) (t s : ByteArray) (hsz : Sized r) (P : Nat → Prop) (W : World) (v : Value) (h : RlAt P W r v) :
    Calls Tryz.prog 17 #[v, .string t, .string s] W fun e w' => e = .returned (.bool (teachesM r t s)) ∧ Below W.heap.size W w' := by
  obtain ⟨Am, cm, Ac, cc, rfl, hms, hcs⟩ := h.form
  obtain ⟨n, hnn⟩ : ∃ n, n = r.ms.length := ⟨_, rfl⟩
  obtain ⟨m, hmm⟩ : ∃ m, m = r.cs.length := ⟨_, rfl⟩
  rw [← hmm] at hcs
  rw [← hnn, ← hmm] at ⊢
  obtain ⟨raws, hrow, hall⟩ := hcs
  obtain ⟨V, hV⟩ : ∃ V, V = ((W.alloc (.cells #[.slice Am n cm, .slice Ac m cc] 27)).alloc (.cells #[.string t] 9)).alloc (.cells #[.string s] 9) := ⟨_, rfl⟩
  have hb : Below W.heap.size W V := by rw [hV]; exact (((Below.refl _ W).alloc (Nat.le_refl _) _).alloc (by simp) _).alloc (by simp; omega) _
  have hx0 : V.heap[W.heap.size]? = some (.cells #[.slice Am n cm, .slice Ac m cc] 27 (0, 0)) := by rw [hV]; exact (heap_alloc_old _ _ (by simp; omega)).trans ((heap_alloc_old _ _ (by simp)).trans (heap_alloc_new W _))
  have hx1 : V.heap[W.heap.size + 1]? = some (.cells #[.string t] 9 (0, 0)) := by
    rw [hV]; exact (heap_alloc_old _ _ (by simp)).trans (by have := heap_alloc_new (W.alloc (.cells #[.slice Am n cm, .slice Ac m cc] 27)) (.cells #[.string t] 9); simpa using this)
  have hx2 : V.heap[W.heap.size + 1 + 1]? = some (.cells #[.string s] 9 (0, 0)) := by
    rw [hV]; have := heap_alloc_new ((W.alloc (.cells #[.slice Am n cm, .slice Ac m cc] 27)).alloc (.cells #[.string t] 9)) (.cells #[.string s] 9); simpa using this
  have x1 := cell_of_row _ _ 1 _ _ (0, 0) hx0
  have t1 := cell_of_row _ _ 0 _ _ (0, 0) hx1
  have t2 := cell_of_row _ _ 0 _ _ (0, 0) hx2
  have HC := Lib.hid (containsC raws P V (.slice Ac m cc) (hrow.under hb) (by have := hall.1; have := hsz.cs; omega) (fun i => decide ((r.cs.getD i nilC).teacher = t) && hasN (r.cs.getD i nilC).studs s) 51 #[.pointer (some ⟨W.heap.size + 1, 0, none⟩), .pointer (some ⟨W.heap.size + 1 + 1, 0, none⟩)] (fun args w => by kernel_rfl) (fun w i hi hw => by
    have hi2 : i < r.cs.length := by rw [← hall.1]; exact hi
    obtain ⟨n1, n2, n3⟩ := hall.2 i hi hi2
    have hg : r.cs.getD i nilC = r.cs[i] := by rw [List.getD_eq_getElem?_getD, List.getElem?_eq_getElem hi2]; rfl
    have hmem := List.getElem_mem hi2
    simp only [hg]
    rw [← n2]
    exact teach1_any raws[i].name raws[i].teacher raws[i].studs r.cs[i].studs t s P w _ _ ((hw.cell (p := ⟨W.heap.size + 1, 0, none⟩) (Gn.heap_lt hx1)).trans t1) ((hw.cell (p := ⟨W.heap.size + 1 + 1, 0, none⟩) (Gn.heap_lt hx2)).trans t2) (n3.under (hb.trans (hw.mono hb.size))) (hsz.rising _ hmem) (by have := hsz.studs _ hmem; omega)))
  rw [any_row r.cs (fun c => decide (c.teacher = t) && hasN c.studs s) raws.length hall.1 nilC] at HC
  have HV := Lib.hid hV
  have HB := Lib.hid hb
  have hf := Gn.frozen_row hx0 1
  obtain ⟨d, hd⟩ : ∃ d, d = teachesM r t s := ⟨_, rfl⟩
  rw [show (r.cs.any fun c => decide (c.teacher = t) && hasN c.studs s) = d from hd.symm] at HC
  rw [← hd]
  clear hV hb hx0 hx1 hx2 hms hrow hall hsz t1 t2 h hd hnn hmm
  go_enter Tryz.func17, Tryz.ntmps17
  go_upto_region 1 with fail
  rw [← HV.out]
  go_wp2_with fail
  refine HC.out.mono ?_
  rintro e w2 ⟨rfl, hb2⟩
  have HB2 := Lib.hid (HB.out.trans (hb2.mono HB.out.size))
  clear hb2
  go_wp2_with fail
  go_ret
  exact ⟨rfl, HB2.out⟩
end Go.Proofs.YtnmhgjoofgmcgaaGreat.Rl
