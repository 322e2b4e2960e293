/-
  The plain parser's state, and the walks of look, bad, is, need, name.
  Rows of the document's nodes that grow, beside a block that is turned.
  The walk of the plain parser's alt.
  Within row, of the plain parser: the state; an item in two.
-/
import Derived.Test.YtppdemdjlhdfcaaSxShift
import Derived.Test.YtppdemdjlhdfcaaSxPars
import Derived.BigQuiet
import Derived.Deep.QuietTactic
import Derived.RegionTactic
import Derived.Test.YtppdemdjlhdfcaaSxAlt
import Derived.Test.YtppdemdjlhdfcaaSxCodes
import Derived.Test.YtppdemdjlhdfcaaSxTrees
import Derived.Deep.AppendLies
import Derived.Deep.RegionLaw

namespace Go.Proofs.Ytppdemdjlhdfcaa.Sx
open Go.RowKit
open Lx (Tk Toks)
set_option maxRecDepth 100000

/-- Block g is a state of the plain parser: the tokens ts, in row r, at token i, within d brackets, with the fault F. -/
structure QAt (W : World) (g r : Nat) (ts : List Tk) (cap i d : Nat) (F : Nat × Nat × Nat) : Prop where
  blk : W.heap[g]? = some (.cells #[.slice (some ⟨r, 0, none⟩) ts.length cap, .int .i64 i, .int .i64 F.1, .int .i64 F.2.1, .int .i64 F.2.2, .int .i64 d] 57 (0, 0))
  tok : Toks W r ts
  le : ts.length ≤ cap
  lt : r < g
section
variable {W W' : World} {g r : Nat} {ts : List Tk} {cap i d : Nat} {F : Nat × Nat × Nat}
theorem QAt.facts (h : QAt W g r ts cap i d F) :
    W.cell? ⟨g, 0, none⟩ = some (.slice (some ⟨r, 0, none⟩) ts.length cap) ∧ W.cell? ⟨g, 1, none⟩ = some (.int .i64 i) ∧ W.cell? ⟨g, 2, none⟩ = some (.int .i64 F.1) ∧ W.cell? ⟨g, 3, none⟩ = some (.int .i64 F.2.1) ∧ W.cell? ⟨g, 4, none⟩ = some (.int .i64 F.2.2) ∧ W.cell? ⟨g, 5, none⟩ = some (.int .i64 d) ∧ ∀ j, W.frozen? ⟨g, j, none⟩ = false :=
  ⟨cell_of_row _ _ 0 _ _ (0, 0) h.blk, cell_of_row _ _ 1 _ _ (0, 0) h.blk, cell_of_row _ _ 2 _ _ (0, 0) h.blk, cell_of_row _ _ 3 _ _ (0, 0) h.blk, cell_of_row _ _ 4 _ _ (0, 0) h.blk, cell_of_row _ _ 5 _ _ (0, 0) h.blk, fun j => by have h' := h.blk; simp [World.frozen?, h']⟩
theorem QAt.below (h : QAt W g r ts cap i d F) (b : Below W.heap.size W W') : QAt W' g r ts cap i d F := ⟨(b.block g (Lx.heap_lt h.blk)).trans h.blk, h.tok.below b, h.le, h.lt⟩
theorem QAt.same (h : QAt W g r ts cap i d F) (e : W'.heap = W.heap) : QAt W' g r ts cap i d F := by
  refine ⟨by rw [e]; exact h.blk, ⟨by rw [e]; exact h.tok.1, fun q u hk => ?_⟩, h.le, h.lt⟩
  have := h.tok.2 q u hk
  unfold World.cell? at this ⊢
  rw [e]
  exact this
theorem QAt.tk (h : QAt W g r ts cap i d F) (hi : i < ts.length) :
    W.cell? ⟨r, i * 4, none⟩ = some (.int .i64 (tkAt ts i).kind) ∧ W.cell? ⟨r, i * 4 + 1, none⟩ = some (.string (Lx.mk (tkAt ts i).text)) ∧ W.cell? ⟨r, i * 4 + 2, none⟩ = some (.int .i64 (tkAt ts i).line) ∧ W.cell? ⟨r, i * 4 + 3, none⟩ = some (.int .i64 (tkAt ts i).col) := by
  rw [tkAt_get hi]; exact h.tok.at_ i hi
/-- A store into the state's own block. -/
theorem QAt.set (h : QAt W g r ts cap i d F) (k : Nat) (v : Value) (i' d' : Nat) (F' : Nat × Nat × Nat)
    (hv : (#[Value.slice (some ⟨r, 0, none⟩) ts.length cap, .int .i64 i, .int .i64 F.1, .int .i64 F.2.1, .int .i64 F.2.2, .int .i64 d]).setIfInBounds k v = #[.slice (some ⟨r, 0, none⟩) ts.length cap, .int .i64 i', .int .i64 F'.1, .int .i64 F'.2.1, .int .i64 F'.2.2, .int .i64 d']) : QAt (W.setCell ⟨g, k, none⟩ v) g r ts cap i' d' F' := by
  refine ⟨by rw [← hv]; exact Lx.heap_set h.blk k v, ⟨by simp [World.setCell]; exact h.tok.1, fun q u hk => ?_⟩, h.le, h.lt⟩
  exact (World.cell?_setCell_other W _ _ _ (fun e => by have := h.lt; injection e with e; omega)).trans (h.tok.2 q u hk)
end
/-- What a call of the plain parser leaves. -/
def Quits (W : World) (g r : Nat) (ts : List Tk) (cap i d : Nat) (F : Nat × Nat × Nat) (x : Value) (e : Ending) (w' : World) : Prop :=
  e = .returned x ∧ QAt w' g r ts cap i d F ∧ Lx.Sep g W.heap.size W w'
def Looks (W : World) (k : Nat) (t : ByteArray) (e : Ending) (w' : World) : Prop := e = .returned (.tuple #[.int .i64 k, .string t]) ∧ Below W.heap.size W w'

set_option maxHeartbeats 4000000 in
theorem look_any (W : World) (g r : Nat) (ts : List Tk) (cap i d : Nat) (F : Nat × Nat × Nat) (h : QAt W g r ts cap i d F) (hi : i < ts.length) (hn : ts.length ≤ 4096) :
    Calls Try.prog 17 #[.pointer (some ⟨g, 0, none⟩)] W (Looks W (tkAt ts i).kind (Lx.mk (tkAt ts i).text)) := by
  obtain ⟨c0, c1, c2, c3, c4, c5, cf⟩ := h.facts
  obtain ⟨x0, x1, x2, x3⟩ := h.tk hi
  have hle := h.le
  have hA := fun o => h.below ((Below.refl W.heap.size W).alloc (Nat.le_refl _) o)
  have a0 := fun o => (hA o).facts.1
  have a1 := fun o => (hA o).facts.2.1
  have y0 := fun o => ((hA o).tk hi).1
  have y1 := fun o => ((hA o).tk hi).2.1
  have y2 := fun o => ((hA o).tk hi).2.2.1
  have y3 := fun o => ((hA o).tk hi).2.2.2
  have hno : ¬ (4096 : Int) ≤ (i : Int) := by omega
  obtain ⟨tx, htx⟩ : ∃ tx, tx = Lx.mk (tkAt ts i).text := ⟨_, rfl⟩
  rw [← htx] at x1 ⊢
  simp only [← htx] at y1
  clear h hA htx c2 c3 c4 c5
  go_enter Try.func17, Try.ntmps17
  go_wp2_with fail
  go_region
  all_goals
    go_wp2_with fail
    go_quiet (fail)
    go_wp2
    go_ret2
    exact ⟨rfl, Lx.below_drewN (below_drew' ((Below.refl _ _).alloc (Nat.le_refl _) _)) _⟩

/-- A test is told. -/
def Tests (b : Bool) (W : World) (e : Ending) (w' : World) : Prop := e = .returned (.bool b) ∧ Below W.heap.size W w'
def sgQ (F : Nat × Nat × Nat) (ts : List Tk) (i : Nat) (c : UInt8) : Bool := decide (F.2.2 = 0) && isSg ts i c
set_option maxHeartbeats 4000000 in
theorem isq_any (W : World) (g r : Nat) (ts : List Tk) (cap i d : Nat) (F : Nat × Nat × Nat) (c : UInt8) (h : QAt W g r ts cap i d F) (hi : i < ts.length) (hn : ts.length ≤ 4096) :
    Calls Try.prog 14 #[.pointer (some ⟨g, 0, none⟩), .string ⟨#[c]⟩] W (Tests (sgQ F ts i c) W) := by
  have KL := Lib.hid (look_any W g r ts cap i d F h hi hn)
  have HQ := Lib.hid h
  have htl : ((Lx.mk (tkAt ts i).text).toList == [c]) = decide ((tkAt ts i).text = [c]) := by
    rw [Lib.toList_data, Bool.eq_iff_iff]; simp [Lx.mk]
  obtain ⟨tx, htx⟩ : ∃ tx, tx = Lx.mk (tkAt ts i).text := ⟨_, rfl⟩
  rw [← htx] at KL htl
  clear h htx
  by_cases hF : F.2.2 = 0
  · have e1 : ((F.2.2 : Int) == 0) = true := by rw [beq_iff_eq]; omega
    by_cases hk : (tkAt ts i).kind = 3
    · have e2 : (((tkAt ts i).kind : Int) == 3) = true := by rw [beq_iff_eq]; omega
      have hs : sgQ F ts i c = (tx.toList == [c]) := by unfold sgQ isSg; rw [decide_eq_true hF, decide_eq_true hk, htl]; rfl
      rw [hs]
      clear hF hk hs htl
      go_enter Try.func14, Try.ntmps14
      go_wp2_with fail
      refine KL.out.mono ?_
      rintro e w1 ⟨rfl, b1⟩
      have hq1 := HQ.out.below b1
      obtain ⟨c0, c1, c2, c3, c4, c5, cf⟩ := hq1.facts
      clear hq1
      go_wp2
      go_ret
      exact ⟨rfl, b1⟩
    · have e2 : (((tkAt ts i).kind : Int) == 3) = false := by rw [beq_eq_false_iff_ne]; omega
      have hs : sgQ F ts i c = false := by unfold sgQ isSg; rw [decide_eq_false hk]; simp
      rw [hs]
      clear hF hk hs htl
      go_enter Try.func14, Try.ntmps14
      go_wp2_with fail
      refine KL.out.mono ?_
      rintro e w1 ⟨rfl, b1⟩
      have hq1 := HQ.out.below b1
      obtain ⟨c0, c1, c2, c3, c4, c5, cf⟩ := hq1.facts
      clear hq1
      go_wp2
      go_ret
      exact ⟨rfl, b1⟩
  · have e1 : ((F.2.2 : Int) == 0) = false := by rw [beq_eq_false_iff_ne]; omega
    have hs : sgQ F ts i c = false := by unfold sgQ; rw [decide_eq_false hF]; rfl
    rw [hs]
    clear hF hs htl
    go_enter Try.func14, Try.ntmps14
    go_wp2_with fail
    refine KL.out.mono ?_
    rintro e w1 ⟨rfl, b1⟩
    have hq1 := HQ.out.below b1
    obtain ⟨c0, c1, c2, c3, c4, c5, cf⟩ := hq1.facts
    clear hq1
    go_wp2
    go_ret
    exact ⟨rfl, b1⟩

theorem sep_drew1 {g c : Nat} {a w : World} (h : Lx.Sep g c a w) : Lx.Sep g c a w.drew := ⟨h.os, h.tape, h.output, h.size, h.block⟩
/-- The fault behind a complaint: the first one stays. -/
def badQ (F : Nat × Nat × Nat) (ts : List Tk) (i k : Nat) : Nat × Nat × Nat := if F.2.2 = 0 then ((tkAt ts i).line, (tkAt ts i).col, k) else F
set_option maxHeartbeats 4000000 in
theorem badq_any (W : World) (g r : Nat) (ts : List Tk) (cap i d : Nat) (F : Nat × Nat × Nat) (k : Nat) (h : QAt W g r ts cap i d F) (hi : i < ts.length) :
    Calls Try.prog 18 #[.pointer (some ⟨g, 0, none⟩), .int .i64 k] W (Quits W g r ts cap i d (badQ F ts i k) (.tuple #[])) := by
  obtain ⟨c0, c1, c2, c3, c4, c5, cf⟩ := h.facts
  by_cases hF : F.2.2 = 0
  · have e1 : ((F.2.2 : Int) == 0) = true := by rw [beq_iff_eq]; omega
    rw [show badQ F ts i k = ((tkAt ts i).line, (tkAt ts i).col, k) by unfold badQ; rw [if_pos hF]]
    obtain ⟨x0, x1, x2, x3⟩ := h.tk hi
    have hle := h.le
    have hA := fun o => h.below ((Below.refl W.heap.size W).alloc (Nat.le_refl _) o)
    have a0 := fun o => (hA o).facts.1
    have a1 := fun o => (hA o).facts.2.1
    have a2 := fun o => (hA o).facts.2.2.1
    have a3 := fun o => (hA o).facts.2.2.2.1
    have a4 := fun o => (hA o).facts.2.2.2.2.1
    have af := fun o => (hA o).facts.2.2.2.2.2.2
    have y0 := fun o => ((hA o).tk hi).1
    have y1 := fun o => ((hA o).tk hi).2.1
    have y2 := fun o => ((hA o).tk hi).2.2.1
    have y3 := fun o => ((hA o).tk hi).2.2.2
    have hgl := Lx.heap_lt h.blk
    have HQ := Lib.hid h
    clear h hA hF
    go_enter Try.func18, Try.ntmps18
    go_wp2_with fail
    go_region
    all_goals
      go_wp2
      have hq0 := ((HQ.out.set 2 (.int .i64 (tkAt ts i).line) i d ((tkAt ts i).line, F.2.1, F.2.2) rfl).set 3 (.int .i64 (tkAt ts i).col) i d ((tkAt ts i).line, (tkAt ts i).col, F.2.2) rfl).set 4 (.int .i64 k) i d ((tkAt ts i).line, (tkAt ts i).col, k) rfl
      have hq := hq0.below ((Below.refl _ _).alloc (Nat.le_refl _) (.cells #[.int .i64 (tkAt ts i).kind, .string (Lx.mk (tkAt ts i).text), .int .i64 (tkAt ts i).line, .int .i64 (tkAt ts i).col] 89))
      have hs0 := (((Lx.Sep.refl g W.heap.size W).setCell (p := ⟨g, 2, none⟩) (.inl rfl) (.int .i64 (tkAt ts i).line)).setCell (p := ⟨g, 3, none⟩) (.inl rfl) (.int .i64 (tkAt ts i).col)).setCell (p := ⟨g, 4, none⟩) (.inl rfl) (.int .i64 k)
      have hs := hs0.alloc (by simp [World.setCell]) (.cells #[.int .i64 (tkAt ts i).kind, .string (Lx.mk (tkAt ts i).text), .int .i64 (tkAt ts i).line, .int .i64 (tkAt ts i).col] 89)
      exact bodyPost_end (results_none rfl _ _ _) rfl ⟨rfl, QAt.same hq rfl, sep_drew1 hs⟩
  · have e1 : ((F.2.2 : Int) == 0) = false := by rw [beq_eq_false_iff_ne]; omega
    rw [show badQ F ts i k = F by unfold badQ; rw [if_neg hF]]
    have HQ := Lib.hid h
    clear h hF
    go_enter Try.func18, Try.ntmps18
    go_wp2
    exact bodyPost_end (results_none rfl _ _ _) rfl ⟨rfl, HQ.out, Lx.Sep.refl _ _ _⟩

theorem quits_trans {W w1 : World} {g r : Nat} {ts : List Tk} {cap i d : Nat} {F : Nat × Nat × Nat} {x : Value} {e : Ending} {w' : World} (s : Lx.Sep g W.heap.size W w1) (h : Quits w1 g r ts cap i d F x e w') : Quits W g r ts cap i d F x e w' :=
  ⟨h.1, h.2.1, s.trans (h.2.2.mono s.size)⟩
set_option maxHeartbeats 4000000 in
theorem needq_any (W : World) (g r : Nat) (ts : List Tk) (cap i d : Nat) (F : Nat × Nat × Nat) (c : UInt8) (h : QAt W g r ts cap i d F) (hi : i < ts.length) (hn : ts.length ≤ 4096) :
    Calls Try.prog 16 #[.pointer (some ⟨g, 0, none⟩), .string ⟨#[c]⟩] W (Quits W g r ts cap (if sgQ F ts i c = true then i + 1 else i) d (if sgQ F ts i c = true then F else badQ F ts i 2) (.tuple #[])) := by
  have KI := isq_any W g r ts cap i d F c h hi hn
  have HQ := Lib.hid h
  have KB := fun w (hw : QAt w g r ts cap i d F) => badq_any w g r ts cap i d F 2 hw hi
  have HB := Lib.hid KB
  clear h KB
  cases hs : sgQ F ts i c
  · rw [hs] at KI
    have HK := Lib.hid KI
    clear KI hs
    rw [if_neg (by decide), if_neg (by decide)]
    go_enter Try.func16, Try.ntmps16
    go_wp2_with fail
    refine HK.out.mono ?_
    rintro e w1 ⟨rfl, b1⟩
    have hq1 := HQ.out.below b1
    have HS := Lib.hid (Lx.Sep.of_below (g := g) b1)
    have H1 := Lib.hid hq1
    clear hq1 b1
    go_wp2_with fail
    refine (HB.out _ H1.out).mono ?_
    rintro e w2 ho
    have hfin := quits_trans HS.out ho
    obtain ⟨rfl, h1, h2⟩ := hfin
    clear ho
    go_wp2
    exact bodyPost_ret (results_none rfl _ _ _) rfl ⟨rfl, h1, h2⟩
  · rw [hs] at KI
    have HK := Lib.hid KI
    clear KI hs
    rw [if_pos rfl, if_pos rfl]
    go_enter Try.func16, Try.ntmps16
    go_wp2_with fail
    refine HK.out.mono ?_
    rintro e w1 ⟨rfl, b1⟩
    have hq1 := HQ.out.below b1
    obtain ⟨c0, c1, c2, c3, c4, c5, cf⟩ := hq1.facts
    have hq2 := hq1.set 1 (.int .i64 ((i : Int) + 1)) (i + 1) d F (by rw [show ((i : Int) + 1) = ((i + 1 : Nat) : Int) by omega]; rfl)
    have hs2 := (Lx.Sep.of_below (g := g) b1).setCell (p := ⟨g, 1, none⟩) (.inl rfl) (.int .i64 ((i : Int) + 1))
    have H2 := Lib.hid hq2
    have HS2 := Lib.hid hs2
    clear hq1 hq2 hs2 b1
    go_wp2
    exact bodyPost_end (results_none rfl _ _ _) rfl ⟨rfl, H2.out, HS2.out⟩

/-- Is the next token a name, and nothing wrong? -/
def nmQ (F : Nat × Nat × Nat) (ts : List Tk) (i : Nat) : Bool := decide (F.2.2 = 0) && decide ((tkAt ts i).kind = 1)
set_option maxHeartbeats 4000000 in
theorem nameq_any (W : World) (g r : Nat) (ts : List Tk) (cap i d : Nat) (F : Nat × Nat × Nat) (h : QAt W g r ts cap i d F) (hi : i < ts.length) (hn : ts.length ≤ 4096) :
    Calls Try.prog 15 #[.pointer (some ⟨g, 0, none⟩)] W (Quits W g r ts cap (if nmQ F ts i = true then i + 1 else i) d (if (tkAt ts i).kind = 1 then F else badQ F ts i 2) (.string (Lx.mk (if nmQ F ts i = true then (tkAt ts i).text else [])))) := by
  have KL := Lib.hid (look_any W g r ts cap i d F h hi hn)
  have HQ := Lib.hid h
  have KB := fun w (hw : QAt w g r ts cap i d F) => badq_any w g r ts cap i d F 2 hw hi
  have HB := Lib.hid KB
  clear h KB
  by_cases hk : (tkAt ts i).kind = 1
  · have e2 : (((tkAt ts i).kind : Int) != 1) = false := by rw [bne_eq_false_iff_eq]; omega
    rw [if_pos hk]
    by_cases hF : F.2.2 = 0
    · have e1 : ((F.2.2 : Int) != 0) = false := by rw [bne_eq_false_iff_eq]; omega
      have hs : nmQ F ts i = true := by unfold nmQ; rw [decide_eq_true hF, decide_eq_true hk]; rfl
      rw [hs, if_pos rfl, if_pos rfl]
      clear hF hk hs
      go_enter Try.func15, Try.ntmps15
      go_wp2_with fail
      refine KL.out.mono ?_
      rintro e w1 ⟨rfl, b1⟩
      have hq1 := HQ.out.below b1
      obtain ⟨c0, c1, c2, c3, c4, c5, cf⟩ := hq1.facts
      have hq2 := hq1.set 1 (.int .i64 ((i : Int) + 1)) (i + 1) d F (by rw [show ((i : Int) + 1) = ((i + 1 : Nat) : Int) by omega]; rfl)
      have hs2 := (Lx.Sep.of_below (g := g) b1).setCell (p := ⟨g, 1, none⟩) (.inl rfl) (.int .i64 ((i : Int) + 1))
      have H2 := Lib.hid hq2
      have HS2 := Lib.hid hs2
      clear hq1 hq2 hs2 b1
      go_wp2
      go_ret
      exact ⟨rfl, H2.out, HS2.out⟩
    · have e1 : ((F.2.2 : Int) != 0) = true := by rw [bne_iff_ne]; omega
      have hs : nmQ F ts i = false := by unfold nmQ; rw [decide_eq_false hF]; rfl
      rw [hs, if_neg (by decide), if_neg (by decide)]
      clear hF hk hs
      go_enter Try.func15, Try.ntmps15
      go_wp2_with fail
      refine KL.out.mono ?_
      rintro e w1 ⟨rfl, b1⟩
      have hq1 := HQ.out.below b1
      obtain ⟨c0, c1, c2, c3, c4, c5, cf⟩ := hq1.facts
      have H1 := Lib.hid hq1
      have HS1 := Lib.hid (Lx.Sep.of_below (g := g) b1)
      clear hq1 b1
      go_wp2
      go_ret
      exact ⟨rfl, H1.out, HS1.out⟩
  · have e2 : (((tkAt ts i).kind : Int) != 1) = true := by rw [bne_iff_ne]; omega
    have hs : nmQ F ts i = false := by unfold nmQ; rw [decide_eq_false hk]; simp
    rw [if_neg hk, hs, if_neg (by decide), if_neg (by decide)]
    have hc : (badQ F ts i 2).2.2 ≠ 0 := by
      unfold badQ
      split
      · show (2 : Nat) ≠ 0
        decide
      · assumption
    have e1 : (((badQ F ts i 2).2.2 : Int) != 0) = true := by rw [bne_iff_ne]; omega
    generalize badQ F ts i 2 = F' at HB e1 ⊢
    clear hk hs hc
    go_enter Try.func15, Try.ntmps15
    go_wp2_with fail
    refine KL.out.mono ?_
    rintro e w1 ⟨rfl, b1⟩
    have H1 := Lib.hid (HQ.out.below b1)
    have HS := Lib.hid (Lx.Sep.of_below (g := g) b1)
    clear b1
    go_wp2_with fail
    refine (HB.out _ H1.out).mono ?_
    rintro e w2 ho
    have hfin := quits_trans HS.out ho
    obtain ⟨rfl, h1, h2⟩ := hfin
    obtain ⟨c0, c1, c2, c3, c4, c5, cf⟩ := h1.facts
    have H2 := Lib.hid h1
    clear ho h1
    go_wp2
    go_ret
    exact ⟨rfl, H2.out, h2⟩
end Go.Proofs.Ytppdemdjlhdfcaa.Sx

namespace Go.Proofs.Ytppdemdjlhdfcaa.Sx
open Go.RowKit
open Lx (Tk Toks heap_lt own_block)
set_option maxRecDepth 100000

/-- A row of nodes of the call's own, that may still grow: no node stands in the row itself, nor in block x. -/
def QItems (base x : Nat) (W : World) (A : Option Addr) (cap : Nat) (acc : List Tree) : Prop :=
  ∃ vs : List (Value × Value × Value), vs.length = acc.length ∧ W.ownsRow base 66 3 (.slice A acc.length cap) acc.length (cells3 vs) ∧ (Value.slice A acc.length cap).ownBlock ≠ some x ∧
    ∀ (i : Nat) (h : i < acc.length) (h2 : i < vs.length), Nd (fun r => base ≤ r ∧ r ≠ x ∧ (Value.slice A acc.length cap).ownBlock ≠ some r) W acc[i] vs[i].1 vs[i].2.1 vs[i].2.2
theorem QItems.nil (base x : Nat) (W : World) : QItems base x W none 0 [] := ⟨[], rfl, World.ownsRow_nil _ _ _ _, by simp [Value.ownBlock], fun i h => absurd h (by simp)⟩
theorem QItems.keep {base x : Nat} {W W' : World} {A : Option Addr} {cap : Nat} {acc : List Tree} (h : QItems base x W A cap acc) (hs : W.heap.size ≤ W'.heap.size) (hb : ∀ r, base ≤ r → r ≠ x → r < W.heap.size → W'.heap[r]? = W.heap[r]?) : QItems base x W' A cap acc := by
  obtain ⟨vs, h1, h2, hx, h3⟩ := h
  refine ⟨vs, h1, ⟨h2.1, ?_⟩, hx, fun i hi hi2 => (h3 i hi hi2).keep hs fun r hp hr => ⟨hp, fun j => ?_⟩⟩
  · rcases h2.2 with h4 | ⟨g, cp, cur, hv, hbr, hh, hrest⟩
    · exact .inl h4
    · exact .inr ⟨g, cp, cur, hv, hbr, (hb g hbr (fun e => hx (by rw [hv, ← e]; rfl)) (heap_lt hh)).trans hh, hrest⟩
  · have := hb r hp.1 hp.2.1 hr
    unfold World.cell?
    simp only [this]
/-- The row as a node's kids. -/
theorem QItems.node {base x : Nat} {W : World} {A : Option Addr} {cap : Nat} {acc : List Tree} (h : QItems base x W A cap acc) (k : Nat) : Nd (fun r => base ≤ r ∧ r ≠ x) W (.node k [] acc) (.int .i64 k) (.string ⟨#[]⟩) (.slice A acc.length cap) := by
  obtain ⟨vs, h1, h2, hx, h3⟩ := h
  have hw : ∀ (i : Nat) (hi : i < acc.length), Nd (fun r => base ≤ r ∧ r ≠ x) W acc[i] (vs.getD i (.bool false, .bool false, .bool false)).1 (vs.getD i (.bool false, .bool false, .bool false)).2.1 (vs.getD i (.bool false, .bool false, .bool false)).2.2 := fun i hi => by
    have e : vs.getD i (.bool false, .bool false, .bool false) = vs[i]'(by omega) := by simp [List.getD, List.getElem?_eq_getElem (show i < vs.length by omega)]
    rw [e]
    exact (h3 i hi (by omega)).keep (Nat.le_refl _) fun r hp _ => ⟨⟨hp.1, hp.2.1⟩, fun _ => rfl⟩
  rcases h2.2 with ⟨hv, hn⟩ | ⟨g, cp, cur, hv, hbr, hh, hnc, _⟩
  · have e : acc = [] := List.eq_nil_of_length_eq_zero hn
    subst e
    exact Nd.leaf _ _ k [] A cap
  · have hgx : g ≠ x := fun e => hx (by rw [hv, ← e]; rfl)
    injection hv with hA _ hcp
    subst hA
    subst hcp
    have hcell := h2.cells (g := g) rfl
    refine .mk k [] acc (some ⟨g, 0, none⟩) cap g _ _ _ (fun _ => ⟨rfl, heap_lt hh, hbr, hgx⟩) hnc (fun i hi => ?_) hw
    have e : vs.getD i (.bool false, .bool false, .bool false) = vs[i]'(by omega) := by simp [List.getD, List.getElem?_eq_getElem (show i < vs.length by omega)]
    obtain ⟨c1, c2, c3⟩ := cells3_at vs i (by omega)
    simp only [e]
    refine ⟨?_, ?_, ?_⟩
    · have := hcell _ _ c1; rwa [Lx.add_row] at this
    · have := hcell _ _ c2; rwa [Lx.add_row] at this
    · have := hcell _ _ c3; rwa [Lx.add_row] at this
/-- The only node of a row. -/
theorem QItems.one {base x : Nat} {W : World} {A : Option Addr} {cap : Nat} {t : Tree} (h : QItems base x W A cap [t]) : ∃ r a b c, A = some ⟨r, 0, none⟩ ∧ 1 ≤ cap ∧ W.cell? ⟨r, 0, none⟩ = some a ∧ W.cell? ⟨r, 1, none⟩ = some b ∧ W.cell? ⟨r, 2, none⟩ = some c ∧ Nd (fun r => base ≤ r ∧ r ≠ x) W t a b c := by
  obtain ⟨vs, h1, h2, hx, h3⟩ := h
  rcases h2.2 with ⟨hv, hn⟩ | ⟨g, cp, cur, hv, hbr, hh, hnc, _⟩
  · simp at hn
  · injection hv with hA _ hcp
    subst hA
    subst hcp
    have hcell := h2.cells (g := g) rfl
    obtain ⟨c1, c2, c3⟩ := cells3_at vs 0 (by simp at h1; omega)
    have hv0 : 0 < vs.length := by simp at h1; omega
    have hn := h3 0 (by simp) hv0
    refine ⟨g, (vs[0]'hv0).1, (vs[0]'hv0).2.1, (vs[0]'hv0).2.2, rfl, by simpa using hnc, ?_, ?_, ?_, hn.keep (Nat.le_refl _) fun r hp _ => ⟨⟨hp.1, hp.2.1⟩, fun _ => rfl⟩⟩
    · have := hcell _ _ c1; rwa [Lx.add_row] at this
    · have := hcell _ _ c2; rwa [Lx.add_row] at this
    · have := hcell _ _ c3; rwa [Lx.add_row] at this
theorem QItems.own_lt {base x : Nat} {W : World} {A : Option Addr} {cap : Nat} {acc : List Tree} (h : QItems base x W A cap acc) : ∀ k, (Value.slice A acc.length cap).ownBlock = some k → k < W.heap.size ∧ base ≤ k ∧ k ≠ x := by
  intro k hk
  obtain ⟨vs, _, ho, hx, _⟩ := h
  refine ⟨?_, own_block ho k hk, fun e => hx (by rw [hk, e])⟩
  rcases ho.2 with ⟨h1, _⟩ | ⟨q, _, _, h1, _, h3, _⟩
  · rw [h1] at hk; simp [Value.ownBlock] at hk
  · rw [h1] at hk
    simp [Value.ownBlock] at hk
    have := heap_lt h3
    omega
/-- Behind an append of one node that was made behind the row. -/
theorem QItems.snoc {base x lo gq cap' : Nat} {W1 w4 : World} {A : Option Addr} {cap : Nat} {acc : List Tree} {t : Tree} {a b c : Value} {o : Obj} (h : QItems base x W1 A cap acc) (hlo : base ≤ lo) (hxl : x < lo) (hown : ∀ k, (Value.slice A acc.length cap).ownBlock = some k → k < lo) (hlo2 : lo ≤ W1.heap.size) (hn : Nd (fun r => lo ≤ r) W1 t a b c)
    (hown4 : ∀ vs : List (Value × Value × Value), W1.ownsRow base 66 3 (.slice A acc.length cap) acc.length (cells3 vs) → w4.ownsRow base 66 3 (.slice (some ⟨gq, 0, none⟩) (acc.length + 1) cap') (acc.length + 1) (cells3 vs ++ [a, b, c]))
    (hg : (W1.alloc o).grownBy w4 (Value.slice A acc.length cap).ownBlock) (hat : (Value.slice A acc.length cap).ownBlock = some gq ∨ gq = (W1.alloc o).heap.size) :
    QItems base x w4 (some ⟨gq, 0, none⟩) cap' (acc ++ [t]) := by
  have hol := h.own_lt
  obtain ⟨vs, h1, h2, hx, h3⟩ := h
  have ho := hown4 vs h2
  have hl : (acc ++ [t]).length = acc.length + 1 := by simp
  have hsz : W1.heap.size ≤ w4.heap.size := by have := hg.size; simp at this; omega
  have hcell : ∀ r j, r < W1.heap.size → (Value.slice A acc.length cap).ownBlock ≠ some r → w4.cell? ⟨r, j, none⟩ = W1.cell? ⟨r, j, none⟩ := fun r j hr hne => by
    have e := (hg.block r (by simp; omega) (fun e => hne e.symm)).trans (heap_alloc_old W1 o hr)
    unfold World.cell?
    simp only [e]
  have hgx : gq ≠ x := by
    rcases hat with h | h
    · exact (hol gq h).2.2
    · rw [h]; simp; omega
  refine ⟨vs ++ [(a, b, c)], by simp [h1], by rw [hl, cells3_snoc]; exact ho, by rw [hl]; intro e; exact hgx (by simpa [Value.ownBlock] using e), fun i hi hi2 => ?_⟩
  rw [hl]
  have hne4 : ∀ r, r < W1.heap.size → (Value.slice A acc.length cap).ownBlock ≠ some r → (Value.slice (some ⟨gq, 0, none⟩) (acc.length + 1) cap').ownBlock ≠ some r := fun r hr hne e => by
    have e2 : gq = r := by simpa [Value.ownBlock] using e
    rcases hat with h | h
    · rw [e2] at h; exact hne h
    · rw [e2] at h; simp at h; omega
  by_cases hi3 : i < acc.length
  · have e1 : (acc ++ [t])[i] = acc[i] := List.getElem_append_left hi3
    have e2 : (vs ++ [(a, b, c)])[i] = vs[i]'(by omega) := List.getElem_append_left (by omega)
    rw [e1, e2]
    exact (h3 i hi3 (by omega)).keep hsz fun r hp hr => ⟨⟨hp.1, hp.2.1, hne4 r hr hp.2.2⟩, fun j => hcell r j hr hp.2.2⟩
  · have hie : i = acc.length := by rw [hl] at hi; omega
    subst hie
    have e1 : (acc ++ [t])[acc.length]'hi = t := by simp
    have e2 : (vs ++ [(a, b, c)])[acc.length]'hi2 = (a, b, c) := by simp [← h1]
    rw [e1, e2]
    refine hn.keep hsz fun r hp hr => ?_
    have hne : (Value.slice A acc.length cap).ownBlock ≠ some r := fun e => by have := hown r e; omega
    exact ⟨⟨by omega, by omega, hne4 r hr hne⟩, fun j => hcell r j hr hne⟩
/-- One node as a row; x is the next block. -/
theorem QItems.start {base lo : Nat} {W : World} {t : Tree} {a b c : Value} (h : Nd (fun r => lo ≤ r) W t a b c) (hlo : base ≤ lo) (hb : base ≤ W.heap.size) : QItems base (W.heap.size + 1) (W.alloc (.cells #[a, b, c] 66)) (some ⟨W.heap.size, 0, none⟩) 1 [t] := by
  refine ⟨[(a, b, c)], rfl, ⟨rfl, .inr ⟨W.heap.size, 1, _, rfl, hb, heap_alloc_new W _, Nat.le_refl _, by unfold maxLen; simp, rfl, rfl⟩⟩, by simp [Value.ownBlock], fun i hi hi2 => ?_⟩
  have : i = 0 := by simp at hi; omega
  subst this
  refine h.keep (by simp) fun r hp hr => ⟨⟨by omega, by omega, fun e => ?_⟩, fun j => ((Below.refl W.heap.size W).alloc (Nat.le_refl _) _).cell (p := ⟨r, j, none⟩) hr⟩
  simp [Value.ownBlock] at e
  omega
theorem qninfo : (Try.prog.info? 66).map (fun i => (i.zero, i.size, i.bytes)) = some (some (.agg #[.int .i64 0, .string ⟨#[]⟩, .slice none 0 0]), 3, 48) := by kernel_rfl

/-- What the plain parser's functions leave: a node, or a fault in the state and whatever node. -/
def QOut (W : World) (g r : Nat) (ts : List Tk) (cap d : Nat) (R : Res Tree) (e : Ending) (w' : World) : Prop :=
  match R with
  | .ok t j => ∃ x y z, e = .returned (.agg #[x, y, z]) ∧ Nd (fun q => W.heap.size ≤ q) w' t x y z ∧ QAt w' g r ts cap j d (0, 0, 0) ∧ Lx.Sep g W.heap.size W w'
  | .no l c k => ∃ (n : Nat) (tx : ByteArray) (A : Option Addr) (m cp j d' : Nat), e = .returned (.agg #[.int .i64 n, .string tx, .slice A m cp]) ∧ j < ts.length ∧ QAt w' g r ts cap j d' (l, c, k) ∧ Lx.Sep g W.heap.size W w'
def QCtr (F : FuncId) (ts : List Tk) (p : Nat → Nat → Option (Res Tree)) : Prop :=
  ∀ (W : World) (g r cap i d : Nat) (R : Res Tree), QAt W g r ts cap i d (0, 0, 0) → i < ts.length → d ≤ 16 → p d i = some R → Calls Try.prog F #[.pointer (some ⟨g, 0, none⟩)] W (QOut W g r ts cap d R)
/-- The kinds of tokens. -/
def Kinds (ts : List Tk) : Prop := ∀ i, (tkAt ts i).kind = 1 ∨ (tkAt ts i).kind = 2 ∨ (tkAt ts i).kind = 3 ∨ (tkAt ts i).kind = 4

/-- Within alt: the result's block, n's block nb, its kids. -/
structure AlQ (W0 : World) (g r : Nat) (ts : List Tk) (cap d nb : Nat) (W : World) (A : Option Addr) (cp : Nat) (acc : List Tree) (i : Nat) : Prop where
  par : QAt W g r ts cap i d (0, 0, 0)
  res : W.heap[W0.heap.size]? = some (.cells #[.int .i64 0, .string ⟨#[]⟩, .slice none 0 0] 66 (0, 0))
  nb_ : W.heap[nb]? = some (.cells #[.int .i64 4, .string ⟨#[]⟩, .slice A acc.length cp] 66 (0, 0))
  items : QItems (W0.heap.size + 1) nb W A cp acc
  sep : Lx.Sep g W0.heap.size W0 W
  lt : W0.heap.size < nb
section
variable {W0 W W' : World} {g r : Nat} {ts : List Tk} {cap d nb i j : Nat} {A : Option Addr} {cp : Nat} {acc : List Tree}
theorem AlQ.size (h : AlQ W0 g r ts cap d nb W A cp acc i) : W0.heap.size + 2 ≤ W.heap.size := by have := heap_lt h.nb_; have := h.lt; omega
theorem AlQ.call (h : AlQ W0 g r ts cap d nb W A cp acc i) (hg : g < W0.heap.size) (p : QAt W' g r ts cap j d (0, 0, 0)) (k : Lx.Sep g W.heap.size W W') : AlQ W0 g r ts cap d nb W' A cp acc j :=
  have hlt := h.lt
  have hs := h.size
  ⟨p, (k.block _ (heap_lt h.res) (by omega)).trans h.res, (k.block _ (heap_lt h.nb_) (by omega)).trans h.nb_, h.items.keep k.size fun q hq _ hq2 => k.block q hq2 (by omega), h.sep.trans (k.mono (by omega)), hlt⟩
/-- A store of the kids into n's block, behind an append. -/
theorem AlQ.snoc {W1 w4 : World} {lo : Nat} {t : Tree} {x y z : Value} {o : Obj} {gq cp' : Nat} (h : AlQ W0 g r ts cap d nb W1 A cp acc i) (hg : g < W0.heap.size) (hlo : nb < lo) (hlo2 : lo ≤ W1.heap.size) (hown : ∀ k, (Value.slice A acc.length cp).ownBlock = some k → k < lo) (hn : Nd (fun q => lo ≤ q) W1 t x y z)
    (hown4 : ∀ vs : List (Value × Value × Value), W1.ownsRow (W0.heap.size + 1) 66 3 (.slice A acc.length cp) acc.length (cells3 vs) → w4.ownsRow (W0.heap.size + 1) 66 3 (.slice (some ⟨gq, 0, none⟩) (acc.length + 1) cp') (acc.length + 1) (cells3 vs ++ [x, y, z]))
    (hgr : (W1.alloc o).grownBy w4 (Value.slice A acc.length cp).ownBlock) (hat : (Value.slice A acc.length cp).ownBlock = some gq ∨ gq = (W1.alloc o).heap.size) :
    AlQ W0 g r ts cap d nb (w4.setCell ⟨nb, 2, none⟩ (.slice (some ⟨gq, 0, none⟩) (acc.length + 1) cp')) (some ⟨gq, 0, none⟩) cp' (acc ++ [t]) i := by
  have hlt := h.lt
  have hb := h.items.own_lt
  have hit := h.items.snoc (show W0.heap.size + 1 ≤ lo by omega) hlo hown hlo2 hn hown4 hgr hat
  have keep : ∀ k, k < W1.heap.size → (k ≤ W0.heap.size ∨ k = nb) → w4.heap[k]? = W1.heap[k]? := fun k hk hk2 =>
    (hgr.block k (by simp; omega) (fun e => by have := hb k e.symm; omega)).trans (heap_alloc_old W1 o hk)
  have hnb := heap_lt h.nb_
  have hset : ∀ b, nb ≠ b → (w4.setCell ⟨nb, 2, none⟩ (.slice (some ⟨gq, 0, none⟩) (acc.length + 1) cp')).heap[b]? = w4.heap[b]? := fun b hb => Lx.set_keep w4 2 _ hb
  have hszs : (w4.setCell ⟨nb, 2, none⟩ (.slice (some ⟨gq, 0, none⟩) (acc.length + 1) cp')).heap.size = w4.heap.size := by simp [World.setCell]
  have hsz4 : W1.heap.size + 1 ≤ w4.heap.size := by have := hgr.size; simp at this; omega
  have hplt := h.par.lt
  refine ⟨⟨((hset _ (by omega)).trans (keep g (by omega) (.inl (by omega)))).trans h.par.blk, ⟨by rw [hszs]; have := h.par.tok.1; omega, fun k u hk => ?_⟩, h.par.le, hplt⟩, ((hset _ (by omega)).trans (keep _ (by omega) (.inl (Nat.le_refl _)))).trans h.res, ?_, hit.keep (by rw [hszs]; exact Nat.le_refl _) (fun q _ hq _ => hset q (fun e => hq e.symm)), ?_, hlt⟩
  · have e := h.par.tok.2 k u hk
    have hk2 := (hset r (by omega)).trans (keep r h.par.tok.1 (.inl (by omega)))
    unfold World.cell? at e ⊢
    simp only [hk2]
    exact e
  · have := Lx.heap_set ((keep nb hnb (.inr rfl)).trans h.nb_) 2 (.slice (some ⟨gq, 0, none⟩) (acc.length + 1) cp')
    rw [show (acc ++ [t]).length = acc.length + 1 by simp]
    exact this
  · exact (h.sep.trans ⟨hgr.os, hgr.tape, hgr.output, by omega, fun k hk _ => keep k (by omega) (.inl (by omega))⟩).setCell (.inr (by simp; omega)) _
theorem AlQ.same (h : AlQ W0 g r ts cap d nb W A cp acc i) (e1 : W'.heap = W.heap) (e2 : W'.os = W.os) (e3 : W'.tape = W.tape) (e4 : W'.output = W.output) : AlQ W0 g r ts cap d nb W' A cp acc i :=
  ⟨h.par.same e1, by rw [e1]; exact h.res, by rw [e1]; exact h.nb_, h.items.keep (by rw [e1]; exact Nat.le_refl _) (fun _ _ _ _ => by rw [e1]), ⟨e2.trans h.sep.os, e3.trans h.sep.tape, e4.trans h.sep.output, by rw [e1]; exact h.sep.size, fun k hk hg => by rw [e1]; exact h.sep.block k hk hg⟩, h.lt⟩
/-- Behind a fault: the result's block, n's block with more than one kid. -/
structure AlF (W0 : World) (g r : Nat) (ts : List Tk) (cap nb : Nat) (F : Nat × Nat × Nat) (W : World) : Prop where
  par : ∃ j d', j < ts.length ∧ QAt W g r ts cap j d' F
  res : W.heap[W0.heap.size]? = some (.cells #[.int .i64 0, .string ⟨#[]⟩, .slice none 0 0] 66 (0, 0))
  nb_ : ∃ A m cp, 2 ≤ m ∧ W.heap[nb]? = some (.cells #[.int .i64 4, .string ⟨#[]⟩, .slice A m cp] 66 (0, 0))
  sep : Lx.Sep g W0.heap.size W0 W
  lt : W0.heap.size < nb
theorem AlQ.facts (h : AlQ W0 g r ts cap d nb W A cp acc i) : W.cell? ⟨nb, 0, none⟩ = some (.int .i64 4) ∧ W.cell? ⟨nb, 1, none⟩ = some (.string ⟨#[]⟩) ∧ W.cell? ⟨nb, 2, none⟩ = some (.slice A acc.length cp) ∧ (∀ j, W.frozen? ⟨nb, j, none⟩ = false) ∧
    W.cell? ⟨W0.heap.size, 0, none⟩ = some (.int .i64 0) ∧ W.cell? ⟨W0.heap.size, 1, none⟩ = some (.string ⟨#[]⟩) ∧ W.cell? ⟨W0.heap.size, 2, none⟩ = some (.slice none 0 0) ∧ ∀ j, W.frozen? ⟨W0.heap.size, j, none⟩ = false :=
  ⟨cell_of_row _ _ 0 _ _ (0, 0) h.nb_, cell_of_row _ _ 1 _ _ (0, 0) h.nb_, cell_of_row _ _ 2 _ _ (0, 0) h.nb_, (fun j => by have h' := h.nb_; simp [World.frozen?, h']), cell_of_row _ _ 0 _ _ (0, 0) h.res, cell_of_row _ _ 1 _ _ (0, 0) h.res, cell_of_row _ _ 2 _ _ (0, 0) h.res, fun j => by have h' := h.res; simp [World.frozen?, h']⟩
end
end Go.Proofs.Ytppdemdjlhdfcaa.Sx

namespace Go.Proofs.Ytppdemdjlhdfcaa.Sx
open Go.RowKit
open Lx (Tk Toks)
set_option maxRecDepth 100000

theorem qres_done {w3 : World} {b : Nat} {u v s : Value} (h : w3.heap[b]? = some (.cells #[u, v, s] 66 (0, 0))) (x y z : Value) : (((w3.setCell ⟨b, 0, none⟩ x).setCell ⟨b, 1, none⟩ y).setCell ⟨b, 2, none⟩ z).heap[b]? = some (.cells #[x, y, z] 66 (0, 0)) :=
  Lx.heap_set (Lx.heap_set (Lx.heap_set h 0 _) 1 _) 2 _
section
variable {W0 W W' : World} {g r : Nat} {ts : List Tk} {cap d nb i j : Nat} {A : Option Addr} {cp : Nat} {acc : List Tree}
/-- Three cells stored into the result's block, which lies ahead of all else that is new. -/
theorem q_set3 {F : Nat × Nat × Nat} (hp : QAt W g r ts cap i d F) (hg : g < W0.heap.size) (hs : Lx.Sep g W0.heap.size W0 W) (x y z : Value) :
    QAt (((W.setCell ⟨W0.heap.size, 0, none⟩ x).setCell ⟨W0.heap.size, 1, none⟩ y).setCell ⟨W0.heap.size, 2, none⟩ z) g r ts cap i d F ∧ Lx.Sep g W0.heap.size W0 (((W.setCell ⟨W0.heap.size, 0, none⟩ x).setCell ⟨W0.heap.size, 1, none⟩ y).setCell ⟨W0.heap.size, 2, none⟩ z) := by
  have hlt := hp.lt
  refine ⟨⟨(res_keep W x y z (by omega)).trans hp.blk, ⟨by rw [res_size]; exact hp.tok.1, fun k u hk => ?_⟩, hp.le, hlt⟩, ((hs.setCell (.inr (Nat.le_refl _)) _).setCell (.inr (Nat.le_refl _)) _).setCell (.inr (Nat.le_refl _)) _⟩
  have := res_keep W x y z (show W0.heap.size ≠ r by omega)
  have e := hp.tok.2 k u hk
  unfold World.cell? at e ⊢
  simp only [this]
  exact e
theorem q_ok (hp : QAt W g r ts cap i d (0, 0, 0)) (hg : g < W0.heap.size) (hs : Lx.Sep g W0.heap.size W0 W) {t : Tree} {x y z : Value} (hn : Nd (fun q => W0.heap.size + 1 ≤ q) W t x y z) :
    QOut W0 g r ts cap d (.ok t i) (.returned (.agg #[x, y, z])) (((W.setCell ⟨W0.heap.size, 0, none⟩ x).setCell ⟨W0.heap.size, 1, none⟩ y).setCell ⟨W0.heap.size, 2, none⟩ z) := by
  obtain ⟨h1, h2⟩ := q_set3 hp hg hs x y z
  refine ⟨x, y, z, rfl, hn.keep (by rw [res_size]; exact Nat.le_refl _) fun q hq _ => ⟨by omega, fun j => ?_⟩, h1, h2⟩
  have := res_keep W x y z (show W0.heap.size ≠ q by omega)
  unfold World.cell?
  simp only [this]
theorem q_no {l c k j d' n : Nat} {tx : ByteArray} {m : Nat} (hp : QAt W g r ts cap j d' (l, c, k)) (hj : j < ts.length) (hg : g < W0.heap.size) (hs : Lx.Sep g W0.heap.size W0 W) :
    QOut W0 g r ts cap d (.no l c k) (.returned (.agg #[.int .i64 n, .string tx, .slice A m cp])) (((W.setCell ⟨W0.heap.size, 0, none⟩ (.int .i64 n)).setCell ⟨W0.heap.size, 1, none⟩ (.string tx)).setCell ⟨W0.heap.size, 2, none⟩ (.slice A m cp)) := by
  obtain ⟨h1, h2⟩ := q_set3 hp hg hs (.int .i64 n) (.string tx) (.slice A m cp)
  exact ⟨n, tx, A, m, cp, j, d', rfl, hj, h1, h2⟩
end
theorem frozen_qrow {W : World} {b : Nat} {cs : Array Value} {t : TypeId} (h : W.heap[b]? = some (.cells cs t (0, 0))) : ∀ j, W.frozen? ⟨b, j, none⟩ = false := fun j => by simp [World.frozen?, h]
/-- The measure: nothing behind a fault. -/
def codeOf (W : World) (g : Nat) : Nat := match W.cell? ⟨g, 4, none⟩ with | some (.int .i64 n) => n.toNat | _ => 0
def msQ (W : World) (g n : Nat) : Nat := if codeOf W g = 0 then n + 1 - atOf W g else 0
theorem msQ_ok {W : World} {g r : Nat} {ts : List Tk} {cap i d : Nat} (h : QAt W g r ts cap i d (0, 0, 0)) (n : Nat) : msQ W g n = n + 1 - i := by
  obtain ⟨c0, c1, c2, c3, c4, c5, cf⟩ := h.facts
  have e1 : codeOf W g = 0 := by rw [codeOf, c4]; rfl
  have e2 : atOf W g = i := by rw [atOf, c1]; simp
  rw [msQ, if_pos e1, e2]
theorem msQ_no {W : World} {g r : Nat} {ts : List Tk} {cap i d : Nat} {F : Nat × Nat × Nat} (h : QAt W g r ts cap i d F) (hF : F.2.2 ≠ 0) (n : Nat) : msQ W g n = 0 := by
  obtain ⟨c0, c1, c2, c3, c4, c5, cf⟩ := h.facts
  have e1 : codeOf W g = F.2.2 := by rw [codeOf, c4]; simp
  rw [msQ, if_neg (by rw [e1]; exact hF)]
/-- A row that failed, appended all the same. -/
theorem al_fail {W0 W1 w3 w4 : World} {g r : Nat} {ts : List Tk} {cap d nb i j d' : Nat} {A : Option Addr} {cp : Nat} {acc : List Tree} {F : Nat × Nat × Nat} {o : Obj} {gq cp' : Nat} (h : AlQ W0 g r ts cap d nb W1 A cp acc i) (hg : g < W0.heap.size) (h0 : 0 < acc.length) (k : Lx.Sep g W1.heap.size W1 w3) (hp : QAt w3 g r ts cap j d' F) (hj : j < ts.length)
    (hgr : (w3.alloc o).grownBy w4 (Value.slice A acc.length cp).ownBlock) : AlF W0 g r ts cap nb F (w4.setCell ⟨nb, 2, none⟩ (.slice (some ⟨gq, 0, none⟩) (acc.length + 1) cp')) := by
  have hlt := h.lt
  have hs := h.size
  have hb := h.items.own_lt
  have hnb := Lx.heap_lt h.nb_
  have hr3 := (k.block _ (Lx.heap_lt h.res) (by omega)).trans h.res
  have hn3 := (k.block _ (Lx.heap_lt h.nb_) (by omega)).trans h.nb_
  have hk3 := k.size
  have keep : ∀ q, q < w3.heap.size → (q ≤ W0.heap.size ∨ q = nb) → w4.heap[q]? = w3.heap[q]? := fun q hq hq2 =>
    (hgr.block q (by simp; omega) (fun e => by have := hb q e.symm; omega)).trans (heap_alloc_old w3 o hq)
  have hset : ∀ b, nb ≠ b → (w4.setCell ⟨nb, 2, none⟩ (.slice (some ⟨gq, 0, none⟩) (acc.length + 1) cp')).heap[b]? = w4.heap[b]? := fun b hb => Lx.set_keep w4 2 _ hb
  have hszs : (w4.setCell ⟨nb, 2, none⟩ (.slice (some ⟨gq, 0, none⟩) (acc.length + 1) cp')).heap.size = w4.heap.size := by simp [World.setCell]
  have hsz4 : w3.heap.size + 1 ≤ w4.heap.size := by have := hgr.size; simp at this; omega
  have hplt := hp.lt
  refine ⟨⟨j, d', hj, ((hset _ (by omega)).trans (keep g (by omega) (.inl (by omega)))).trans hp.blk, ⟨by rw [hszs]; have := hp.tok.1; omega, fun q u hk => ?_⟩, hp.le, hplt⟩, ((hset _ (by omega)).trans (keep _ (by omega) (.inl (Nat.le_refl _)))).trans hr3, ⟨_, _, _, by omega, Lx.heap_set ((keep nb (by omega) (.inr rfl)).trans hn3) 2 (.slice (some ⟨gq, 0, none⟩) (acc.length + 1) cp')⟩, ?_, hlt⟩
  · have e := hp.tok.2 q u hk
    have hk2 := (hset r (by omega)).trans (keep r hp.tok.1 (.inl (by omega)))
    unfold World.cell? at e ⊢
    simp only [hk2]
    exact e
  · exact ((h.sep.trans (k.mono (by omega))).trans ⟨hgr.os, hgr.tape, hgr.output, by omega, fun q hq _ => keep q (by omega) (.inl (by omega))⟩).setCell (.inr (by simp; omega)) _
/-- How far alt is. -/
def AlAt (W0 : World) (ts : List Tk) (g r cap d nb f : Nat) (R : Res Tree) (W : World) : Prop :=
  (∃ (f' i cp : Nat) (A : Option Addr) (acc : List Tree), f' ≤ f ∧ i < ts.length ∧ 0 < acc.length ∧ acc.length ≤ i + 1 ∧ pMore ts f' d i acc = some R ∧ AlQ W0 g r ts cap d nb W A cp acc i) ∨
  (∃ l c k, R = .no l c k ∧ k ≠ 0 ∧ AlF W0 g r ts cap nb (l, c, k) W)
theorem sg0 (ts : List Tk) (i : Nat) (c : UInt8) : sgQ (0, 0, 0) ts i c = isSg ts i c := by unfold sgQ; simp
theorem sgF {F : Nat × Nat × Nat} (h : F.2.2 ≠ 0) (ts : List Tk) (i : Nat) (c : UInt8) : sgQ F ts i c = false := by unfold sgQ; rw [decide_eq_false h]; rfl

set_option maxHeartbeats 8000000 in
theorem altq_any (ts : List Tk) (hE : Ended ts) (hn : ts.length ≤ 4096) (f : Nat) (hrow : ∀ f', f' ≤ f → QCtr 35 ts (pRow ts f')) : QCtr 19 ts (pAlt ts (f + 1)) := by
  intro W g r cap i d R hp hi hd hR
  have hg := Lx.heap_lt hp.blk
  rw [pAlt] at hR
  have hb0 : Below W.heap.size W (W.alloc (.cells #[.int .i64 0, .string ⟨#[]⟩, .slice none 0 0] 66)) := (Below.refl _ _).alloc (Nat.le_refl _) _
  have hz := heap_alloc_new W (.cells #[.int .i64 0, .string ⟨#[]⟩, .slice none 0 0] 66)
  have hp0 := hp.below hb0
  obtain ⟨i0, hi0, hz0, hz1, hz2⟩ := info_parts qninfo
  rcases bind_some hR with ⟨l, c, q, h1, rfl⟩ | ⟨t, j, h1, h2⟩
  · have hq0 := (cod_all ts f).2.2.1 d i l c q h1
    have e4 : ((q : Int) == 0) = false := by rw [beq_eq_false_iff_ne]; omega
    have KR := hrow f (Nat.le_refl _) _ g r cap i d _ hp0 hi hd h1
    have HK := Lib.hid KR
    have HB0 := Lib.hid hb0
    have HZ := Lib.hid hz
    clear KR hb0 hp0 hz hp hR h1
    go_enter Try.func19, Try.ntmps19
    go_wp2_with fail
    refine HK.out.mono ?_
    rintro e w1 ⟨n, tx, A, m, cp, j, d', rfl, hj, hq1, hs1⟩
    have hs1s := hs1.size
    rw [heap_size_alloc'] at hs1s
    have hb2 : Below w1.heap.size w1 ((w1.alloc (.cells #[.int .i64 n, .string tx, .slice A m cp] 66)).alloc (.cells #[.int .i64 4, .string ⟨#[]⟩, .slice (some ⟨w1.heap.size, 0, none⟩) 1 1] 66)) := ((Below.refl _ _).alloc (Nat.le_refl _) _).alloc (by simp) _
    have hq2 := hq1.below hb2
    have hsz : ((w1.alloc (.cells #[.int .i64 n, .string tx, .slice A m cp] 66)).alloc (.cells #[.int .i64 4, .string ⟨#[]⟩, .slice (some ⟨w1.heap.size, 0, none⟩) 1 1] 66)).heap.size = w1.heap.size + 2 := by simp
    have hrz : ((w1.alloc (.cells #[.int .i64 n, .string tx, .slice A m cp] 66)).alloc (.cells #[.int .i64 4, .string ⟨#[]⟩, .slice (some ⟨w1.heap.size, 0, none⟩) 1 1] 66)).heap[W.heap.size]? = some (.cells #[.int .i64 0, .string ⟨#[]⟩, .slice none 0 0] 66 (0, 0)) := (hb2.block _ (by omega)).trans ((hs1.block _ (by simp) (by omega)).trans HZ.out)
    have hnb := heap_alloc_new (w1.alloc (.cells #[.int .i64 n, .string tx, .slice A m cp] 66)) (.cells #[.int .i64 4, .string ⟨#[]⟩, .slice (some ⟨w1.heap.size, 0, none⟩) 1 1] 66)
    rw [heap_size_alloc'] at hnb
    have hkb := (heap_alloc_old (w1.alloc (.cells #[.int .i64 n, .string tx, .slice A m cp] 66)) (.cells #[.int .i64 4, .string ⟨#[]⟩, .slice (some ⟨w1.heap.size, 0, none⟩) 1 1] 66) (show w1.heap.size < _ by simp)).trans (heap_alloc_new w1 _)
    have hs2 := ((Lx.Sep.of_below (g := g) HB0.out).trans (hs1.mono (by simp))).trans ((Lx.Sep.of_below hb2).mono (by omega))
    have H2 := Lib.hid hq2
    have HS := Lib.hid hs2
    have HRZ := Lib.hid hrz
    have HNB := Lib.hid hnb
    have HKB := Lib.hid hkb
    clear hq1 hs1 hb2 hq2 hs2 hrz hnb hkb hsz
    go_wp2_with fail
    generalize hV : World.alloc (World.alloc w1 _) _ = V
    rw [hV] at H2 HS HRZ HNB HKB
    have KI := isq_any V g r ts cap j d' (l, c, q) 124 H2.out hj hn
    rw [sgF hq0] at KI
    have HKI := Lib.hid KI
    clear hV KI
    refine wp_loop_rounds 1 ?_
    rw [rounds_succ]
    go_wp2_with fail
    refine HKI.out.mono ?_
    rintro e w3 ⟨rfl, b3⟩
    have hszV := Lx.heap_lt HNB.out
    have hq3 := H2.out.below b3
    have hr3 := (b3.block _ (Lx.heap_lt HRZ.out)).trans HRZ.out
    have hn3 := (b3.block _ (Lx.heap_lt HNB.out)).trans HNB.out
    have hk3 := (b3.block _ (Lx.heap_lt HKB.out)).trans HKB.out
    have hs3 := HS.out.trans ((Lx.Sep.of_below (g := g) b3).mono HS.out.size)
    have z0 : w3.cell? ⟨W.heap.size, 0, none⟩ = some (.int .i64 0) := cell_of_row _ _ 0 _ _ (0, 0) hr3
    have z1 : w3.cell? ⟨W.heap.size, 1, none⟩ = some (.string ⟨#[]⟩) := cell_of_row _ _ 1 _ _ (0, 0) hr3
    have z2 : w3.cell? ⟨W.heap.size, 2, none⟩ = some (.slice none 0 0) := cell_of_row _ _ 2 _ _ (0, 0) hr3
    have zf := frozen_qrow hr3
    have n2 : w3.cell? ⟨w1.heap.size + 1, 2, none⟩ = some (.slice (some ⟨w1.heap.size, 0, none⟩) 1 1) := cell_of_row _ _ 2 _ _ (0, 0) hn3
    have k0 : w3.cell? ⟨w1.heap.size, 0, none⟩ = some (.int .i64 n) := cell_of_row _ _ 0 _ _ (0, 0) hk3
    have k1 : w3.cell? ⟨w1.heap.size, 1, none⟩ = some (.string tx) := cell_of_row _ _ 1 _ _ (0, 0) hk3
    have k2 : w3.cell? ⟨w1.heap.size, 2, none⟩ = some (.slice A m cp) := cell_of_row _ _ 2 _ _ (0, 0) hk3
    have HQ3 := Lib.hid hq3
    have HR3 := Lib.hid hr3
    have HS3 := Lib.hid hs3
    clear hq3 hr3 hn3 hk3 hs3 b3
    go_wp2
    exact bodyPost_ret (results_cell_row rfl _ _ W.heap.size 66 _ (0, 0) _ rfl (qres_done HR3.out _ _ _) Try.underlying66 rfl rfl) rfl (q_no HQ3.out hj hg HS3.out)
  · have KR := hrow f (Nat.le_refl _) _ g r cap i d _ hp0 hi hd h1
    have hj := (inb_all ts hE f).2.2.1 d i hi t j h1
    have HK := Lib.hid KR
    have HB0 := Lib.hid hb0
    have HZ := Lib.hid hz
    have H2 := Lib.hid h2
    clear KR hb0 hp0 hz hp hR h1 h2
    go_enter Try.func19, Try.ntmps19
    go_wp2_with fail
    refine HK.out.mono ?_
    rintro e w1 ⟨xa, xb, xc, rfl, hnd, hq1, hs1⟩
    have hs1s := hs1.size
    rw [heap_size_alloc'] at hs1s
    obtain ⟨ka, ta, Aa, na, ca, rfl, rfl, rfl⟩ := hnd.form
    have hb1 : Below w1.heap.size w1 (w1.alloc (.cells #[.int .i64 ka, .string ta, .slice Aa na ca] 66)) := (Below.refl _ _).alloc (Nat.le_refl _) _
    have hb2 : Below w1.heap.size w1 ((w1.alloc (.cells #[.int .i64 ka, .string ta, .slice Aa na ca] 66)).alloc (.cells #[.int .i64 4, .string ⟨#[]⟩, .slice (some ⟨w1.heap.size, 0, none⟩) 1 1] 66)) := hb1.alloc (by simp) _
    have hA : AlQ W g r ts cap d (w1.heap.size + 1) ((w1.alloc (.cells #[.int .i64 ka, .string ta, .slice Aa na ca] 66)).alloc (.cells #[.int .i64 4, .string ⟨#[]⟩, .slice (some ⟨w1.heap.size, 0, none⟩) 1 1] 66)) (some ⟨w1.heap.size, 0, none⟩) 1 [t] j := by
      have hnb := heap_alloc_new (w1.alloc (.cells #[.int .i64 ka, .string ta, .slice Aa na ca] 66)) (.cells #[.int .i64 4, .string ⟨#[]⟩, .slice (some ⟨w1.heap.size, 0, none⟩) 1 1] 66)
      rw [heap_size_alloc'] at hnb
      refine ⟨hq1.below hb2, (hb2.block _ (by omega)).trans ((hs1.block _ (by simp) (by omega)).trans HZ.out), hnb, ?_, ((Lx.Sep.of_below (g := g) HB0.out).trans (hs1.mono (by simp))).trans ((Lx.Sep.of_below hb2).mono (by omega)), by omega⟩
      have := QItems.start (base := W.heap.size + 1) (lo := W.heap.size + 1) (hnd.keep (Q := fun q => W.heap.size + 1 ≤ q) (Nat.le_refl _) fun q hq _ => ⟨by rw [heap_size_alloc'] at hq; exact hq, fun _ => rfl⟩) (Nat.le_refl _) hs1s
      exact this.keep (by simp) fun q _ _ hq2 => heap_alloc_old _ _ hq2
    have HA := Lib.hid hA
    clear hA hb1 hb2 hnd hq1 hs1
    go_wp2_with fail
    generalize hV : World.alloc (World.alloc w1 _) _ = V
    rw [hV] at HA
    clear hV
    generalize hnbe : w1.heap.size + 1 = nb at HA ⊢
    have hnbl := HA.out.lt
    clear hnbe hs1s
    go_loopw [8] (fun _ wr => AlAt W ts g r cap d nb f R wr) (fun _ wr => msQ wr g ts.length)
    case atStart => exact .inl ⟨f, j, 1, _, [t], Nat.le_refl _, hj, by simp, by simp, H2.out, HA.out⟩
    case round =>
      rcases hrel with ⟨f', i', cp, A, acc, hf', hi', h0, hacc, hM, hL⟩ | ⟨l, c, k, rfl, hk0, hF⟩
      · have hms := Lib.hid (msQ_ok hL.par ts.length)
        cases f' with
        | zero => simp [pMore] at hM
        | succ f'' =>
          rw [pMore] at hM
          have KI := isq_any wr g r ts cap i' d (0, 0, 0) 124 hL.par hi' hn
          rw [sg0] at KI
          have HL := Lib.hid hL
          cases hsg : isSg ts i' 124
          · rw [hsg] at KI
            rw [hsg, if_neg (by decide)] at hM
            injection hM with hM
            subst hM
            have HKI := Lib.hid KI
            clear KI hL hsg
            go_wp2_with fail
            refine HKI.out.mono ?_
            rintro e w2 ⟨rfl, b2⟩
            have hL2 := HL.out.call hg (HL.out.par.below b2) (Lx.Sep.of_below b2)
            obtain ⟨m0, m1, m2, mf, z0, z1, z2, zf⟩ := hL2.facts
            by_cases h1 : acc.length = 1
            · obtain ⟨t', rfl⟩ := List.length_eq_one_iff.1 h1
              obtain ⟨q, a, b, c, rfl, hcp, k0, k1, k2, hnd⟩ := hL2.items.one
              obtain ⟨ka, ta, Aa, na, ca, rfl, rfl, rfl⟩ := hnd.form
              have HP := Lib.hid hL2.par
              have HS := Lib.hid hL2.sep
              have HR := Lib.hid hL2.res
              have HN := Lib.hid (hnd.keep (Q := fun q => W.heap.size + 1 ≤ q) (Nat.le_refl _) fun q hq _ => ⟨hq.1, fun _ => rfl⟩)
              clear hL2 b2 hnd h1
              go_wp2
              exact bodyPost_ret (results_cell_row rfl _ _ W.heap.size 66 _ (0, 0) _ rfl (qres_done HR.out _ _ _) Try.underlying66 rfl rfl) rfl (q_ok HP.out hg HS.out HN.out)
            · have e1 : ((acc.length : Int) == 1) = false := by rw [beq_eq_false_iff_ne]; omega
              have hjn : joined 4 acc = .node 4 [] acc := by
                rcases acc with _ | ⟨a, _ | ⟨b, l⟩⟩
                · simp at h0
                · simp at h1
                · rfl
              have HP := Lib.hid hL2.par
              have HS := Lib.hid hL2.sep
              have HR := Lib.hid hL2.res
              have HN := Lib.hid ((hL2.items.node 4).keep (Q := fun q => W.heap.size + 1 ≤ q) (Nat.le_refl _) fun q hq _ => ⟨hq.1, fun _ => rfl⟩)
              have HJN := Lib.hid hjn
              clear hL2 b2 h1 hjn
              go_wp2
              exact bodyPost_ret (results_cell_row rfl _ _ W.heap.size 66 _ (0, 0) _ rfl (qres_done HR.out _ _ _) Try.underlying66 rfl rfl) rfl (by rw [HJN.out]; exact q_ok HP.out hg HS.out HN.out)
          · rw [hsg] at KI
            rw [hsg, if_pos rfl, tak_short hn] at hM
            have hM2 : ((pRow ts f'' d (i' + 1)).bind fun r => r.bind fun t k => pMore ts f'' d k (acc ++ [t])) = some R := hM
            have hi2 := hE i' (isSg_kind hsg)
            have HKI := Lib.hid KI
            have HHL := Lib.hid (show 0 < acc.length from h0)
            clear KI hL hsg hM
            rcases bind_some hM2 with ⟨l, c, q, h1, rfl⟩ | ⟨t2, k2', h1, h2⟩
            · have hq0 := (cod_all ts f'').2.2.1 d (i' + 1) l c q h1
              have KX := fun w (hw : QAt w g r ts cap (i' + 1) d (0, 0, 0)) => hrow f'' (by omega) w g r cap (i' + 1) d _ hw hi2 hd h1
              have HX := Lib.hid KX
              clear KX h1 hM2
              go_wp2_with fail
              refine HKI.out.mono ?_
              rintro e w2 ⟨rfl, b2⟩
              have hL2 := HL.out.call hg (HL.out.par.below b2) (Lx.Sep.of_below b2)
              have hp3 := hL2.par.set 1 (.int .i64 ((i' : Int) + 1)) (i' + 1) d (0, 0, 0) (by rw [show ((i' : Int) + 1) = ((i' + 1 : Nat) : Int) by omega]; rfl)
              have hL3 := hL2.call hg hp3 ((Lx.Sep.refl g w2.heap.size w2).setCell (p := ⟨g, 1, none⟩) (.inl rfl) (.int .i64 ((i' : Int) + 1)))
              obtain ⟨c0, c1, c2, c3, c4, c5, cf⟩ := hL2.par.facts
              obtain ⟨m0, m1, m2, mf, z0, z1, z2, zf⟩ := hL3.facts
              have HL3 := Lib.hid hL3
              have hszl := hL3.size
              clear hL2 hp3 hL3 b2 z0 z1 z2 zf m0 m1
              go_wp2_with fail
              go_region_law (first | (go_simp; go_at_call 35; refine (HX.out _ (HL3.out.par.same ?_)).mono ?_; rfl; rintro e w3 ⟨kb, tb, Ab, mb, cb, j3, d3, rfl, hj3, hq3, hs3⟩; have hL3d : AlQ W g r ts cap d nb (w2.setCell ⟨g, 1, none⟩ (.int .i64 ((i' : Int) + 1))).drew A cp acc (i' + 1) := AlQ.same HL3.out rfl rfl rfl rfl; have hit := hL3d.items.keep hs3.size (fun q hq _ hq2 => hs3.block q hq2 (by omega)); obtain ⟨vs, hv1, hv2, hv3, hv4⟩ := hit; have hnb3 := (hs3.block _ (Lx.heap_lt hL3d.nb_) (by omega)).trans hL3d.nb_; have d2 : w3.cell? ⟨nb, 2, none⟩ = some (.slice A acc.length cp) := cell_of_row _ _ 2 _ _ (0, 0) hnb3; have hnbs := Lx.heap_lt hnb3; have d2a := fun o : Obj => (((Below.refl w3.heap.size w3).alloc (Nat.le_refl _) o).cell (p := ⟨nb, 2, none⟩) hnbs).trans d2; have hsz3 := hs3.size; have HV := Lib.hid hv2; have HNB3 := Lib.hid hnb3; have HOL := Lib.hid hL3d.items.own_lt; have HLD := Lib.hid hL3d; have HS3 := Lib.hid hs3; have HP3 := Lib.hid hq3; clear hL3d hq3 hs3; clear hv1 hv2 hv3 hv4 hnb3) | (refine step_append_lies _ rfl (.tmp 18) (.tmp 21) 64 rfl (W.heap.size + 1) 66 i0 _ 3 48 Try.underlying64 hi0 hz0 hz1 hz2 rfl (by decide) (.slice A acc.length cp) acc.length (cells3 vs) (by simp [Act.eval]) (HV.out.alloc _) ⟨w3.heap.size, 0, none⟩ 1 1 [.int .i64 kb, .string tb, .slice Ab mb cb] (by simp [Act.eval]) rfl (Lx.row_new _ [.int .i64 kb, .string tb, .slice Ab mb cb] _ _ rfl) (by simp [Value.oneCell']) (by decide) (by unfold maxLen; omega) (by omega) (by simp; omega) _ rfl ?_; intro gq cap' w4 hown4 hgrow4 hat4 hlt4; have hF4 := al_fail (gq := gq) (cp' := cap') HLD.out hg HHL.out HS3.out HP3.out hj3 hgrow4; have hnb4 := (hgrow4.block nb (by simp; omega) (fun e => by have := (HOL.out nb e.symm).2.2; omega)).trans ((heap_alloc_old w3 _ hnbs).trans HNB3.out); have u2 : w4.cell? ⟨nb, 2, none⟩ = some (.slice A acc.length cp) := cell_of_row _ _ 2 _ _ (0, 0) hnb4; have uf := frozen_qrow hnb4; clear hnb4; have HF4 := Lib.hid hF4; clear hF4; clear hown4 hgrow4 hat4 hlt4))
              all_goals
                go_wp2
                go_roundw
                case rel => exact .inr ⟨l, c, q, rfl, hq0, HF4.out⟩
                case measure =>
                  obtain ⟨jj, dd, _, hpq⟩ := HF4.out.par
                  rw [hms.out, msQ_no hpq hq0]
                  omega
            · have hk2 := (inb_all ts hE f'').2.2.1 d (i' + 1) hi2 t2 k2' h1
              have hk3 := (adv_all ts f'').2.2.1 d (i' + 1) t2 k2' h1
              have KX := fun w (hw : QAt w g r ts cap (i' + 1) d (0, 0, 0)) => hrow f'' (by omega) w g r cap (i' + 1) d _ hw hi2 hd h1
              have HX := Lib.hid KX
              have H2b := Lib.hid h2
              clear KX h1 h2 hM2
              go_wp2_with fail
              refine HKI.out.mono ?_
              rintro e w2 ⟨rfl, b2⟩
              have hL2 := HL.out.call hg (HL.out.par.below b2) (Lx.Sep.of_below b2)
              have hp3 := hL2.par.set 1 (.int .i64 ((i' : Int) + 1)) (i' + 1) d (0, 0, 0) (by rw [show ((i' : Int) + 1) = ((i' + 1 : Nat) : Int) by omega]; rfl)
              have hL3 := hL2.call hg hp3 ((Lx.Sep.refl g w2.heap.size w2).setCell (p := ⟨g, 1, none⟩) (.inl rfl) (.int .i64 ((i' : Int) + 1)))
              obtain ⟨c0, c1, c2, c3, c4, c5, cf⟩ := hL2.par.facts
              obtain ⟨m0, m1, m2, mf, z0, z1, z2, zf⟩ := hL3.facts
              have HL3 := Lib.hid hL3
              have hszl := hL3.size
              clear hL2 hp3 hL3 b2 z0 z1 z2 zf m0 m1
              go_wp2_with fail
              go_region_law (first | (go_simp; go_at_call 35; refine (HX.out _ (HL3.out.par.same ?_)).mono ?_; rfl; rintro e w3 ⟨xa, xb, xc, rfl, hnd, hq3, hs3⟩; have hL3d : AlQ W g r ts cap d nb (w2.setCell ⟨g, 1, none⟩ (.int .i64 ((i' : Int) + 1))).drew A cp acc (i' + 1) := AlQ.same HL3.out rfl rfl rfl rfl; have hit := hL3d.items.keep hs3.size (fun q hq _ hq2 => hs3.block q hq2 (by omega)); obtain ⟨vs, hv1, hv2, hv3, hv4⟩ := hit; have hnb3 := (hs3.block _ (Lx.heap_lt hL3d.nb_) (by omega)).trans hL3d.nb_; have d2 : w3.cell? ⟨nb, 2, none⟩ = some (.slice A acc.length cp) := cell_of_row _ _ 2 _ _ (0, 0) hnb3; have hnbs := Lx.heap_lt hnb3; have d2a := fun o : Obj => (((Below.refl w3.heap.size w3).alloc (Nat.le_refl _) o).cell (p := ⟨nb, 2, none⟩) hnbs).trans d2; have hsz3 := hs3.size; have HV := Lib.hid hv2; have HNB3 := Lib.hid hnb3; have HOL := Lib.hid hL3d.items.own_lt; obtain ⟨kb, tb, Ab, mb, cb, rfl, rfl, rfl⟩ := hnd.form; have HND := Lib.hid (Lx.heap_lt hL3d.nb_); have HSZ := Lib.hid hs3.size; have HLD := Lib.hid (hL3d.call hg hq3 hs3); have HN := Lib.hid hnd; clear hL3d hq3 hs3 hnd; clear hv1 hv2 hv3 hv4 hnb3) | (refine step_append_lies _ rfl (.tmp 18) (.tmp 21) 64 rfl (W.heap.size + 1) 66 i0 _ 3 48 Try.underlying64 hi0 hz0 hz1 hz2 rfl (by decide) (.slice A acc.length cp) acc.length (cells3 vs) (by simp [Act.eval]) (HV.out.alloc _) ⟨w3.heap.size, 0, none⟩ 1 1 [.int .i64 kb, .string tb, .slice Ab mb cb] (by simp [Act.eval]) rfl (Lx.row_new _ [.int .i64 kb, .string tb, .slice Ab mb cb] _ _ rfl) (by simp [Value.oneCell']) (by decide) (by unfold maxLen; omega) (by omega) (by simp; omega) _ rfl ?_; intro gq cap' w4 hown4 hgrow4 hat4 hlt4; have h4 := HLD.out.snoc hg (lo := (w2.setCell ⟨g, 1, none⟩ (.int .i64 ((i' : Int) + 1))).drew.heap.size) HND.out HSZ.out (fun k hk => (HOL.out k hk).1) HN.out (fun vs2 hv2 => by rw [owns_uniq hv2 HV.out]; exact hown4) hgrow4 hat4; have hnb4 := (hgrow4.block nb (by simp; omega) (fun e => by have := (HOL.out nb e.symm).2.2; omega)).trans ((heap_alloc_old w3 _ hnbs).trans HNB3.out); have u2 : w4.cell? ⟨nb, 2, none⟩ = some (.slice A acc.length cp) := cell_of_row _ _ 2 _ _ (0, 0) hnb4; have uf := frozen_qrow hnb4; clear hnb4; have H4 := Lib.hid h4; clear h4; clear hown4 hgrow4 hat4 hlt4))
              all_goals
                go_wp2
                go_roundw
                case rel => exact .inl ⟨f'', k2', cap', some ⟨gq, 0, none⟩, acc ++ [t2], by omega, hk2, by simp, by simp; omega, H2b.out, H4.out⟩
                case measure =>
                  rw [hms.out, msQ_ok H4.out.par]
                  omega
      · obtain ⟨⟨jj, dd, hjj, hpq⟩, hres, ⟨A, m, cp, hm2, hnb⟩, hsep, hlt⟩ := hF
        have KI := isq_any wr g r ts cap jj dd (l, c, k) 124 hpq hjj hn
        rw [sgF hk0] at KI
        have HKI := Lib.hid KI
        have HP := Lib.hid hpq
        have HR := Lib.hid hres
        have HNB := Lib.hid hnb
        have HS := Lib.hid hsep
        clear KI hpq hres hnb hsep
        go_wp2_with fail
        refine HKI.out.mono ?_
        rintro e w3 ⟨rfl, b3⟩
        have hq3 := HP.out.below b3
        have hr3 := (b3.block _ (Lx.heap_lt HR.out)).trans HR.out
        have hn3 := (b3.block _ (Lx.heap_lt HNB.out)).trans HNB.out
        have hs3 := HS.out.trans ((Lx.Sep.of_below (g := g) b3).mono HS.out.size)
        have z0 : w3.cell? ⟨W.heap.size, 0, none⟩ = some (.int .i64 0) := cell_of_row _ _ 0 _ _ (0, 0) hr3
        have z1 : w3.cell? ⟨W.heap.size, 1, none⟩ = some (.string ⟨#[]⟩) := cell_of_row _ _ 1 _ _ (0, 0) hr3
        have z2 : w3.cell? ⟨W.heap.size, 2, none⟩ = some (.slice none 0 0) := cell_of_row _ _ 2 _ _ (0, 0) hr3
        have zf := frozen_qrow hr3
        have n0 : w3.cell? ⟨nb, 0, none⟩ = some (.int .i64 4) := cell_of_row _ _ 0 _ _ (0, 0) hn3
        have n1 : w3.cell? ⟨nb, 1, none⟩ = some (.string ⟨#[]⟩) := cell_of_row _ _ 1 _ _ (0, 0) hn3
        have n2 : w3.cell? ⟨nb, 2, none⟩ = some (.slice A m cp) := cell_of_row _ _ 2 _ _ (0, 0) hn3
        have e1 : ((m : Int) == 1) = false := by rw [beq_eq_false_iff_ne]; omega
        have HQ3 := Lib.hid hq3
        have HR3 := Lib.hid hr3
        have HS3 := Lib.hid hs3
        clear hq3 hr3 hn3 hs3 b3
        go_wp2
        exact bodyPost_ret (results_cell_row rfl _ _ W.heap.size 66 _ (0, 0) _ rfl (qres_done HR3.out _ _ _) Try.underlying66 rfl rfl) rfl (q_no (n := 4) HQ3.out hjj hg HS3.out)
end Go.Proofs.Ytppdemdjlhdfcaa.Sx

namespace Go.Proofs.Ytppdemdjlhdfcaa.Sx
open Go.RowKit
open Lx (Tk Toks heap_lt own_block)
set_option maxRecDepth 100000

/-- Within row: the result's block, n's block nb, its kids. -/
structure RwQ (W0 : World) (g r : Nat) (ts : List Tk) (cap d nb : Nat) (W : World) (A : Option Addr) (cp : Nat) (acc : List Tree) (i : Nat) (F : Nat × Nat × Nat) : Prop where
  par : QAt W g r ts cap i d F
  res : W.heap[W0.heap.size]? = some (.cells #[.int .i64 0, .string ⟨#[]⟩, .slice none 0 0] 66 (0, 0))
  nb_ : W.heap[nb]? = some (.cells #[.int .i64 3, .string ⟨#[]⟩, .slice A acc.length cp] 66 (0, 0))
  items : QItems (W0.heap.size + 1) nb W A cp acc
  sep : Lx.Sep g W0.heap.size W0 W
  lt : W0.heap.size < nb
section
variable {W0 W W' : World} {g r : Nat} {ts : List Tk} {cap d d' nb i j : Nat} {F F' : Nat × Nat × Nat} {A : Option Addr} {cp : Nat} {acc : List Tree}
theorem RwQ.size (h : RwQ W0 g r ts cap d nb W A cp acc i F) : W0.heap.size + 2 ≤ W.heap.size := by have := heap_lt h.nb_; have := h.lt; omega
theorem RwQ.call (h : RwQ W0 g r ts cap d nb W A cp acc i F) (hg : g < W0.heap.size) (p : QAt W' g r ts cap j d' F') (k : Lx.Sep g W.heap.size W W') : RwQ W0 g r ts cap d' nb W' A cp acc j F' :=
  have hlt := h.lt
  have hs := h.size
  ⟨p, (k.block _ (heap_lt h.res) (by omega)).trans h.res, (k.block _ (heap_lt h.nb_) (by omega)).trans h.nb_, h.items.keep k.size fun q hq _ hq2 => k.block q hq2 (by omega), h.sep.trans (k.mono (by omega)), hlt⟩
/-- A store of the kids into n's block, behind an append. -/
theorem RwQ.snoc {W1 w4 : World} {lo : Nat} {t : Tree} {x y z : Value} {o : Obj} {gq cp' : Nat} (h : RwQ W0 g r ts cap d nb W1 A cp acc i F) (hg : g < W0.heap.size) (hlo : nb < lo) (hlo2 : lo ≤ W1.heap.size) (hown : ∀ k, (Value.slice A acc.length cp).ownBlock = some k → k < lo) (hn : Nd (fun q => lo ≤ q) W1 t x y z)
    (hown4 : ∀ vs : List (Value × Value × Value), W1.ownsRow (W0.heap.size + 1) 66 3 (.slice A acc.length cp) acc.length (cells3 vs) → w4.ownsRow (W0.heap.size + 1) 66 3 (.slice (some ⟨gq, 0, none⟩) (acc.length + 1) cp') (acc.length + 1) (cells3 vs ++ [x, y, z]))
    (hgr : (W1.alloc o).grownBy w4 (Value.slice A acc.length cp).ownBlock) (hat : (Value.slice A acc.length cp).ownBlock = some gq ∨ gq = (W1.alloc o).heap.size) :
    RwQ W0 g r ts cap d nb (w4.setCell ⟨nb, 2, none⟩ (.slice (some ⟨gq, 0, none⟩) (acc.length + 1) cp')) (some ⟨gq, 0, none⟩) cp' (acc ++ [t]) i F := by
  have hlt := h.lt
  have hb := h.items.own_lt
  have hit := h.items.snoc (show W0.heap.size + 1 ≤ lo by omega) hlo hown hlo2 hn hown4 hgr hat
  have keep : ∀ k, k < W1.heap.size → (k ≤ W0.heap.size ∨ k = nb) → w4.heap[k]? = W1.heap[k]? := fun k hk hk2 =>
    (hgr.block k (by simp; omega) (fun e => by have := hb k e.symm; omega)).trans (heap_alloc_old W1 o hk)
  have hnb := heap_lt h.nb_
  have hset : ∀ b, nb ≠ b → (w4.setCell ⟨nb, 2, none⟩ (.slice (some ⟨gq, 0, none⟩) (acc.length + 1) cp')).heap[b]? = w4.heap[b]? := fun b hb => Lx.set_keep w4 2 _ hb
  have hszs : (w4.setCell ⟨nb, 2, none⟩ (.slice (some ⟨gq, 0, none⟩) (acc.length + 1) cp')).heap.size = w4.heap.size := by simp [World.setCell]
  have hsz4 : W1.heap.size + 1 ≤ w4.heap.size := by have := hgr.size; simp at this; omega
  have hplt := h.par.lt
  refine ⟨⟨((hset _ (by omega)).trans (keep g (by omega) (.inl (by omega)))).trans h.par.blk, ⟨by rw [hszs]; have := h.par.tok.1; omega, fun k u hk => ?_⟩, h.par.le, hplt⟩, ((hset _ (by omega)).trans (keep _ (by omega) (.inl (Nat.le_refl _)))).trans h.res, ?_, hit.keep (by rw [hszs]; exact Nat.le_refl _) (fun q _ hq _ => hset q (fun e => hq e.symm)), ?_, hlt⟩
  · have e := h.par.tok.2 k u hk
    have hk2 := (hset r (by omega)).trans (keep r h.par.tok.1 (.inl (by omega)))
    unfold World.cell? at e ⊢
    simp only [hk2]
    exact e
  · have := Lx.heap_set ((keep nb hnb (.inr rfl)).trans h.nb_) 2 (.slice (some ⟨gq, 0, none⟩) (acc.length + 1) cp')
    rw [show (acc ++ [t]).length = acc.length + 1 by simp]
    exact this
  · exact (h.sep.trans ⟨hgr.os, hgr.tape, hgr.output, by omega, fun k hk _ => keep k (by omega) (.inl (by omega))⟩).setCell (.inr (by simp; omega)) _
theorem RwQ.same (h : RwQ W0 g r ts cap d nb W A cp acc i F) (e1 : W'.heap = W.heap) (e2 : W'.os = W.os) (e3 : W'.tape = W.tape) (e4 : W'.output = W.output) : RwQ W0 g r ts cap d nb W' A cp acc i F :=
  ⟨h.par.same e1, by rw [e1]; exact h.res, by rw [e1]; exact h.nb_, h.items.keep (by rw [e1]; exact Nat.le_refl _) (fun _ _ _ _ => by rw [e1]), ⟨e2.trans h.sep.os, e3.trans h.sep.tape, e4.trans h.sep.output, by rw [e1]; exact h.sep.size, fun k hk hg => by rw [e1]; exact h.sep.block k hk hg⟩, h.lt⟩
theorem RwQ.facts (h : RwQ W0 g r ts cap d nb W A cp acc i F) : W.cell? ⟨nb, 0, none⟩ = some (.int .i64 3) ∧ W.cell? ⟨nb, 1, none⟩ = some (.string ⟨#[]⟩) ∧ W.cell? ⟨nb, 2, none⟩ = some (.slice A acc.length cp) ∧ (∀ j, W.frozen? ⟨nb, j, none⟩ = false) ∧
    W.cell? ⟨W0.heap.size, 0, none⟩ = some (.int .i64 0) ∧ W.cell? ⟨W0.heap.size, 1, none⟩ = some (.string ⟨#[]⟩) ∧ W.cell? ⟨W0.heap.size, 2, none⟩ = some (.slice none 0 0) ∧ ∀ j, W.frozen? ⟨W0.heap.size, j, none⟩ = false :=
  ⟨cell_of_row _ _ 0 _ _ (0, 0) h.nb_, cell_of_row _ _ 1 _ _ (0, 0) h.nb_, cell_of_row _ _ 2 _ _ (0, 0) h.nb_, (fun j => by have h' := h.nb_; simp [World.frozen?, h']), cell_of_row _ _ 0 _ _ (0, 0) h.res, cell_of_row _ _ 1 _ _ (0, 0) h.res, cell_of_row _ _ 2 _ _ (0, 0) h.res, fun j => by have h' := h.res; simp [World.frozen?, h']⟩
end
/-- A slice of the call's own, written out. -/
theorem own_slice {W : World} {base n : Nat} {v' : Value} {xs : List Value} {b : Option Nat} {q : Nat} (h : W.ownsRow base 66 3 v' n xs) (hn : 0 < n) (hat : v'.ownBlock = b ∨ v'.ownBlock = some q) : ∃ gq cp', v' = .slice (some ⟨gq, 0, none⟩) n cp' ∧ (b = some gq ∨ gq = q) := by
  rcases h.2 with ⟨_, h0⟩ | ⟨g, cp, cur, hv, _⟩
  · omega
  · refine ⟨g, cp, hv, ?_⟩
    subst hv
    simp only [Value.ownBlock] at hat
    rcases hat with h | h
    · exact .inl h.symm
    · injection h with h; exact .inr h
/-- What stands behind an atom. -/
def sufK (ts : List Tk) (j : Nat) : Nat := if isSg ts j 42 = true then 6 else if isSg ts j 43 = true then 7 else if isSg ts j 63 = true then 5 else 0
def sufI (ts : List Tk) (j : Nat) : Nat := if sufK ts j = 0 then j else j + 1
def sufT (ts : List Tk) (j : Nat) (t : Tree) : Tree := if sufK ts j = 0 then t else around (sufK ts j) t
theorem item_split {ts : List Tk} (hn : ts.length ≤ 4096) {f d i : Nat} {R : Res Tree} (h : pItem ts f d i = some R) :
    ∃ f', f = f' + 1 ∧ ((∃ l c q, pAtom ts f' d i = some (.no l c q) ∧ R = .no l c q) ∨ ∃ t j, pAtom ts f' d i = some (.ok t j) ∧ R = .ok (sufT ts j t) (sufI ts j)) := by
  cases f with
  | zero => simp [pItem] at h
  | succ f =>
    refine ⟨f, rfl, ?_⟩
    rw [pItem] at h
    rcases bind_some h with ⟨l, c, q, h1, rfl⟩ | ⟨t, j, h1, h2⟩
    · exact .inl ⟨l, c, q, h1, rfl⟩
    · refine .inr ⟨t, j, h1, ?_⟩
      rw [tak_short hn] at h2
      unfold sufT sufI sufK
      by_cases a : isSg ts j 42 = true
      · rw [if_pos a] at h2
        have h3 : some (Res.ok (around 6 t) (j + 1)) = some R := h2
        injection h3 with h3
        rw [if_pos a, ← h3]; rfl
      · by_cases b : isSg ts j 43 = true
        · rw [if_neg a, if_pos b] at h2
          have h3 : some (Res.ok (around 7 t) (j + 1)) = some R := h2
          injection h3 with h3
          rw [if_neg a, if_pos b, ← h3]; rfl
        · by_cases c : isSg ts j 63 = true
          · rw [if_neg a, if_neg b, if_pos c] at h2
            have h3 : some (Res.ok (around 5 t) (j + 1)) = some R := h2
            injection h3 with h3
            rw [if_neg a, if_neg b, if_pos c, ← h3]; rfl
          · rw [if_neg a, if_neg b, if_neg c] at h2
            injection h2 with h3
            rw [if_neg a, if_neg b, if_neg c, ← h3]; rfl
def endB : Option UInt8 → ByteArray | none => ⟨#[]⟩ | some c => ⟨#[c]⟩
def kdB : Option UInt8 → Nat | none => 0 | some c => if c = 93 then 5 else if c = 125 then 6 else 0
theorem clos_cases {ts : List Tk} {i : Nat} {c : UInt8} (h : clos ts i = some c) : (tkAt ts i).kind = 3 ∧ (c = 41 ∨ c = 93 ∨ c = 125) := by
  unfold clos at h
  split at h
  · rename_i h1; unfold isSg at h1; simp only [Bool.and_eq_true, decide_eq_true_eq] at h1; injection h with h; exact ⟨h1.1, .inl h.symm⟩
  · split at h
    · rename_i h1; unfold isSg at h1; simp only [Bool.and_eq_true, decide_eq_true_eq] at h1; injection h with h; exact ⟨h1.1, .inr (.inl h.symm)⟩
    · split at h
      · rename_i h1; unfold isSg at h1; simp only [Bool.and_eq_true, decide_eq_true_eq] at h1; injection h with h; exact ⟨h1.1, .inr (.inr h.symm)⟩
      · cases h
/-- An atom stands: x's block b holds its node. -/
structure Atm (W1 : World) (g r : Nat) (ts : List Tk) (cap d : Nat) (t : Tree) (j : Nat) (W : World) : Prop where
  par : QAt W g r ts cap j d (0, 0, 0)
  sep : Lx.Sep g W1.heap.size W1 W
  nod : ∃ x y z, W.heap[W1.heap.size]? = some (.cells #[x, y, z] 66 (0, 0)) ∧ Nd (fun q => W1.heap.size + 1 ≤ q) W t x y z
/-- x anew: the node that stands in it as the only kid of another. -/
theorem Atm.wrap {W1 W : World} {g r : Nat} {ts : List Tk} {cap d j : Nat} {t : Tree} {x y z : Value} (h : Atm W1 g r ts cap d t j W) (hx : W.heap[W1.heap.size]? = some (.cells #[x, y, z] 66 (0, 0))) (hn : Nd (fun q => W1.heap.size + 1 ≤ q) W t x y z) (hg : g < W1.heap.size) (k : Nat) :
    Atm W1 g r ts cap d (around k t) j ((((W.setCell ⟨W1.heap.size, 0, none⟩ (.int .i64 k)).setCell ⟨W1.heap.size, 1, none⟩ (.string ⟨#[]⟩)).setCell ⟨W1.heap.size, 2, none⟩ (.slice (some ⟨W.heap.size, 0, none⟩) 1 1)).alloc (.cells #[x, y, z] 66)) := by
  have hlt := heap_lt hx
  rw [← World.setCell_alloc_past _ _ _ _ (by simpa [World.setCell] using hlt), ← World.setCell_alloc_past _ _ _ _ (by simpa [World.setCell] using hlt), ← World.setCell_alloc_past _ _ _ _ hlt]
  have b : Below W.heap.size W (W.alloc (.cells #[x, y, z] 66)) := (Below.refl _ _).alloc (Nat.le_refl _) _
  have hp := h.par.below b
  have hs := h.sep.trans ((Lx.Sep.of_below b).mono h.sep.size)
  have hx2 := (b.block _ hlt).trans hx
  obtain ⟨h1, h2⟩ := q_set3 hp hg hs (.int .i64 k) (.string ⟨#[]⟩) (.slice (some ⟨W.heap.size, 0, none⟩) 1 1)
  refine ⟨h1, h2, _, _, _, qres_done hx2 _ _ _, ?_⟩
  have hq := (QItems.start (base := W1.heap.size + 1) (lo := W1.heap.size + 1) hn (Nat.le_refl _) (by omega)).node k
  exact hq.keep (by rw [res_size]; exact Nat.le_refl _) fun q hq2 _ => ⟨hq2.1, fun j => by
    have := res_keep (W.alloc (.cells #[x, y, z] 66)) (b := W1.heap.size) (k := q) (.int .i64 k) (.string ⟨#[]⟩) (.slice (some ⟨W.heap.size, 0, none⟩) 1 1) (by have := hq2.1; omega)
    unfold World.cell?
    simp only [this]⟩
end Go.Proofs.Ytppdemdjlhdfcaa.Sx
