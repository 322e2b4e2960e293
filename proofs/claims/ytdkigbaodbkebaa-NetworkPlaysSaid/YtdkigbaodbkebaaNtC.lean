/-
  Layer 27: Send, Look, Double.
-/
import Derived.Test.YtdkigbaodbkebaaNtB
namespace Go.Proofs.Ytdkigbaodbkebaa.Nt
open Go.RowKit
set_option maxRecDepth 100000
set_option linter.unusedSimpArgs false
set_option linter.unusedVariables false
theorem fr_build (x y : Int) (t : ByteArray) (w : World) : (Instr.build 35 #[(0, .int .i64 x), (1, .int .i64 y), (2, .string t)]).run Try.prog w = .ok (.agg #[.int .i64 x, .int .i64 y, .string t, .bool false]) w := by kernel_rfl
theorem fr_zero (w : World) : (Instr.build 35 #[]).run Try.prog w = .ok (.agg #[.int .i64 0, .int .i64 0, .string ⟨#[]⟩, .bool false]) w := by kernel_rfl
theorem not_run (x : Bool) (w : World) : (Op.unary UnOp.not (.bool x)).run Try.prog w = .ok (.bool (!x)) w := by cases x <;> rfl
theorem set4 {w : World} {g : Nat} {a b c d : Value} {T : TypeId} (h : w.heap[g]? = some (.cells #[a, b, c, d] T (0, 0))) (a' b' c' d' : Value) : ((((w.setCell ⟨g, 0, none⟩ a').setCell ⟨g, 1, none⟩ b').setCell ⟨g, 2, none⟩ c').setCell ⟨g, 3, none⟩ d').heap[g]? = some (.cells #[a', b', c', d'] T (0, 0)) :=
  Gn.heap_set (Gn.heap_set (Gn.heap_set (Gn.heap_set h 0 a') 1 b') 2 c') 3 d'
theorem bel4 {B : Nat} {w0 w : World} (h : Below B w0 w) {g : Nat} (hg : B ≤ g) (a' b' c' d' : Value) : Below B w0 ((((w.setCell ⟨g, 0, none⟩ a').setCell ⟨g, 1, none⟩ b').setCell ⟨g, 2, none⟩ c').setCell ⟨g, 3, none⟩ d') :=
  (((h.setCell (p := ⟨g, 0, none⟩) hg _).setCell (p := ⟨g, 1, none⟩) hg _).setCell (p := ⟨g, 2, none⟩) hg _).setCell (p := ⟨g, 3, none⟩) hg _
theorem send_any {base b : Nat} {fs : List Fr} {A : Option Addr} {cap : Nat} {w : World} (h : NetX base b fs A cap w) (x y : Int) (t : ByteArray) (hn : fs.length ≤ 1024) (hb : base ≤ w.heap.size) :
    Calls Try.prog 6 #[.pointer (some ⟨b, 0, none⟩), .int .i64 x, .int .i64 y, .string t] w (AddT base b fs ⟨x, y, t, false⟩ w) := by
  have hbd := fr_build x y t w
  have HA := Lib.hid (add_any h ⟨x, y, t, false⟩ hn hb)
  unfold AGF at HA
  clear h hb
  go_enter Try.func6, Try.ntmps6
  go_wp2_with fail
  refine HA.out.mono ?_
  rintro e w' ⟨rfl, h1⟩
  have H1 := Lib.hid h1
  clear h1
  go_wp2_with fail
  go_ret
  exact ⟨rfl, H1.out⟩
theorem add_nil (f : Fr) (w : World) : Calls Try.prog 14 #[.pointer none, AGF f] w (fun e w' => e = .returned (.bool false) ∧ Below w.heap.size w w') := by
  obtain ⟨f0, f1, f2, f3⟩ := f
  obtain ⟨V, hV⟩ : ∃ V, V = w.alloc (.cells #[.int .i64 f0, .int .i64 f1, .string f2, .bool f3] 35) := ⟨_, rfl⟩
  have hbv : Below w.heap.size w V := by rw [hV]; exact (Below.refl _ w).alloc (Nat.le_refl _) _
  have hnil := is_nil V
  have HB := Lib.hid hbv
  have HV := Lib.hid hV
  clear hbv hV
  show Calls Try.prog 14 #[.pointer none, .agg #[.int .i64 f0, .int .i64 f1, .string f2, .bool f3]] w _
  go_enter Try.func14, Try.ntmps14
  go_upto_region 1 with fail
  rw [← HV.out]
  go_wp2_with fail
  go_ret
  exact ⟨rfl, HB.out⟩
theorem send_nil (x y : Int) (t : ByteArray) (w : World) : Calls Try.prog 6 #[.pointer none, .int .i64 x, .int .i64 y, .string t] w (fun e w' => e = .returned (.bool false) ∧ Below w.heap.size w w') := by
  have hbd := fr_build x y t w
  have HA := Lib.hid (add_nil ⟨x, y, t, false⟩ w)
  unfold AGF at HA
  go_enter Try.func6, Try.ntmps6
  go_wp2_with fail
  refine HA.out.mono ?_
  rintro e w' ⟨rfl, h1⟩
  have H1 := Lib.hid h1
  clear h1
  go_wp2_with fail
  go_ret
  exact ⟨rfl, H1.out⟩
/-- No frame. -/
def z0 : Fr := ⟨0, 0, ⟨#[]⟩, false⟩
/-- The frame that a number tells. -/
def atF (fs : List Fr) (i : Int) : Fr := fs.getD (plN i fs.length) z0
theorem atF_some {fs : List Fr} {i : Int} {p : Nat} (hp : p = plN i fs.length) (h : p < fs.length) : atF fs i = fs[p] := by
  unfold atF
  rw [← hp, List.getD_eq_getElem?_getD, List.getElem?_eq_getElem h]
  rfl
/-- What Look tells. -/
def LookT (fs : List Fr) (i : Int) (W : World) (e : Ending) (w' : World) : Prop := e = .returned (.tuple #[AGF (atF fs i), .bool (decide (0 < fs.length))]) ∧ Below W.heap.size W w'
theorem NetX.get {base b : Nat} {fs : List Fr} {A : Option Addr} {cap : Nat} {w : World} (h : NetX base b fs A cap w) (k : Nat) (hk : k < fs.length) :
    ∃ (g : Nat) (cur : Array Value), A = some ⟨g, 0, none⟩ ∧ w.heap[g]? = some (.cells cur 35 (0, 0)) ∧ base ≤ g ∧ g ≠ b ∧ fs.length ≤ cap ∧ cap ≤ maxLen ∧ cur.size = cap * 4 ∧ cur.toList.take (fs.length * 4) = frsC fs ∧ ∀ j, j < 4 → cur[k * 4 + j]? = (frC fs[k])[j]? := by
  rcases h.row.2 with ⟨_, h1⟩ | ⟨g, cp, cur, h1, h2, h3, h4, h5, h6, h7⟩
  · omega
  · injection h1 with e1 _ e3
    subst e1 e3
    refine ⟨g, cur, rfl, h3, h2, fun e => ?_, h4, h5, h6, h7, fun j hj => ?_⟩
    · subst e
      rw [h.box] at h3
      injection h3 with h3
      injection h3 with _ h3
      exact absurd h3 (by decide)
    · rw [← frsC_get fs k j hk hj, ← h7, List.getElem?_take_of_lt (by omega)]
      simp
set_option maxHeartbeats 8000000 in
theorem look_any {base b : Nat} {fs : List Fr} {A : Option Addr} {cap : Nat} {w : World} (h : NetX base b fs A cap w) (i : Int) (hn : fs.length ≤ 1024) :
    Calls Try.prog 12 #[.pointer (some ⟨b, 0, none⟩), .int .i64 i] w (LookT fs i w) := by
  obtain ⟨V, hV⟩ : ∃ V, V = w.alloc (.cells #[.int .i64 0, .int .i64 0, .string ⟨#[]⟩, .bool false] 35) := ⟨_, rfl⟩
  have hbv : Below w.heap.size w V := by rw [hV]; exact (Below.refl _ w).alloc (Nat.le_refl _) _
  obtain ⟨r, hr⟩ : ∃ x, x = w.heap.size := ⟨_, rfl⟩
  have hx : V.heap[r]? = some (.cells #[.int .i64 0, .int .i64 0, .string ⟨#[]⟩, .bool false] 35 (0, 0)) := by rw [hV, hr]; exact heap_alloc_new w _
  obtain ⟨n, hnn⟩ : ∃ n, n = fs.length := ⟨_, rfl⟩
  obtain ⟨p, hp⟩ : ∃ p, p = plN i n := ⟨_, rfl⟩
  have hv := h.below hbv
  have hc := cell_of_row _ _ 0 _ _ (0, 0) hv.box
  have r0 := cell_of_row _ _ 0 _ _ (0, 0) hx
  have r1 := cell_of_row _ _ 1 _ _ (0, 0) hx
  have r2 := cell_of_row _ _ 2 _ _ (0, 0) hx
  have r3 := cell_of_row _ _ 3 _ _ (0, 0) hx
  have q0 := Gn.frozen_row hx 0
  have q1 := Gn.frozen_row hx 1
  have q2 := Gn.frozen_row hx 2
  have q3 := Gn.frozen_row hx 3
  have HP := Lib.hid (place_any hv i hn)
  have HX := Lib.hid hx
  have HV := Lib.hid hV
  have HB := Lib.hid hbv
  have HR := Lib.hid hr
  by_cases h0 : n = 0
  · have hl : fs = [] := List.eq_nil_of_length_eq_zero (by omega)
    subst hl
    unfold plV at HP
    have hfz := fr_zero V
    have hnt := not_run false V
    have HRS := Lib.hid (set4 hx (.int .i64 0) (.int .i64 0) (.string ⟨#[]⟩) (.bool false))
    have HBE := Lib.hid (bel4 hbv (Nat.le_of_eq hr.symm) (.int .i64 0) (.int .i64 0) (.string ⟨#[]⟩) (.bool false))
    clear hn hnn hp h0 hv hc hx hV hbv hr h
    go_enter Try.func12, Try.ntmps12
    go_upto_region 1 with fail
    rw [← HV.out, ← HR.out]
    go_wp2_with fail
    refine HP.out.mono ?_
    rintro e w' ⟨rfl, rfl⟩
    go_wp2_with fail
    refine bodyPost_ret (results_ct (P := Try.prog) rfl _ _ r 35 _ (0, 0) _ _ rfl rfl HRS.out Try.underlying35 rfl (by kernel_rfl)) rfl ?_
    exact ⟨rfl, HBE.out⟩
  · have hp0 : p < n := by rw [hp]; exact plN_lt i (by omega)
    have hpl : p < fs.length := by rw [← hnn]; exact hp0
    obtain ⟨g, cur, rfl, hg, hbg, hgb, hnc, hcm, hcs, hct, hget⟩ := hv.get p hpl
    obtain ⟨f0, hf0⟩ : ∃ x, x = fs[p].frm := ⟨_, rfl⟩
    obtain ⟨f1, hf1⟩ : ∃ x, x = fs[p].dst := ⟨_, rfl⟩
    obtain ⟨f2, hf2⟩ : ∃ x, x = fs[p].bytes := ⟨_, rfl⟩
    obtain ⟨f3, hf3⟩ : ∃ x, x = fs[p].sp := ⟨_, rfl⟩
    have hat : atF fs i = ⟨f0, f1, f2, f3⟩ := by rw [atF_some (by rw [hp, hnn]) hpl, hf0, hf1, hf2, hf3]
    have hnt := not_run true V
    have e0 : V.cell? ⟨g, p * 4, none⟩ = some (.int .i64 f0) := by rw [cell_of_row _ _ (p * 4) _ _ (0, 0) hg, show p * 4 = p * 4 + 0 from rfl, hget 0 (by omega), hf0]; rfl
    have e1 : V.cell? ⟨g, p * 4 + 1, none⟩ = some (.int .i64 f1) := by rw [cell_of_row _ _ (p * 4 + 1) _ _ (0, 0) hg, hget 1 (by omega), hf1]; rfl
    have e2 : V.cell? ⟨g, p * 4 + 2, none⟩ = some (.string f2) := by rw [cell_of_row _ _ (p * 4 + 2) _ _ (0, 0) hg, hget 2 (by omega), hf2]; rfl
    have e3 : V.cell? ⟨g, p * 4 + 3, none⟩ = some (.bool f3) := by rw [cell_of_row _ _ (p * 4 + 3) _ _ (0, 0) hg, hget 3 (by omega), hf3]; rfl
    have HRS := Lib.hid (set4 hx (.int .i64 f0) (.int .i64 f1) (.string f2) (.bool f3))
    have HBE := Lib.hid (bel4 hbv (Nat.le_of_eq hr.symm) (.int .i64 f0) (.int .i64 f1) (.string f2) (.bool f3))
    have HPE := Lib.hid (show plV i fs.length = .tuple #[.int .i64 p, .bool true] by unfold plV; rw [← hnn, if_neg h0, decide_eq_true (by omega), ← hp])
    have HLT := Lib.hid (show LookT fs i w (.returned (.tuple #[.agg #[.int .i64 f0, .int .i64 f1, .string f2, .bool f3], .bool true])) _ from ⟨by rw [hat, ← hnn, decide_eq_true (by omega)]; rfl, HBE.out⟩)
    rw [HPE.out] at HP
    rw [← hnn] at hc
    clear hnn hp h0 hv hx hV hbv hr h hf0 hf1 hf2 hf3 hat hg hbg hgb hcs hct hget
    go_enter Try.func12, Try.ntmps12
    go_upto_region 1 with fail
    rw [← HV.out, ← HR.out]
    go_wp2_with fail
    refine HP.out.mono ?_
    rintro e w' ⟨rfl, rfl⟩
    go_wp2_with fail
    refine bodyPost_ret (results_ct (P := Try.prog) rfl _ _ r 35 _ (0, 0) _ _ rfl rfl HRS.out Try.underlying35 rfl (by kernel_rfl)) rfl ?_
    exact HLT.out
end Go.Proofs.Ytdkigbaodbkebaa.Nt
