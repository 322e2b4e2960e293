/-
  The parser's block, and the walks of is, isSign.
-/
import Derived.Test.YtakihbjfkpebcaaSxNode
import Derived.Test.YtakihbjfkpebcaaSxIn
import Derived.Test.YtakihbjfkpebcaaLxRows
import Derived.BigQuiet
import Derived.Deep.QuietTactic
import Derived.WalkLawsBesides
import Derived.RegionTactic
import Derived.ChangeAlike
namespace Go.Proofs.Ytakihbjfkpebcaa.Sx
open Go.RowKit
open Lx (Tk Toks)
set_option maxRecDepth 100000

/-- Block g is a parser of the tokens ts, in row r, at token i, within d brackets. -/
structure PAt (W : World) (g r : Nat) (ts : List Tk) (cap i d : Nat) : Prop where
  blk : W.heap[g]? = some (.cells #[.slice (some ⟨r, 0, none⟩) ts.length cap, .int .i64 i, .int .i64 d] 115 (0, 0))
  tok : Toks W r ts
  le : ts.length ≤ cap
  lt : r < g
theorem PAt.facts {W : World} {g r : Nat} {ts : List Tk} {cap i d : Nat} (h : PAt W g r ts cap i d) :
    W.cell? ⟨g, 0, none⟩ = some (.slice (some ⟨r, 0, none⟩) ts.length cap) ∧ W.cell? ⟨g, 1, none⟩ = some (.int .i64 i) ∧ W.cell? ⟨g, 2, none⟩ = some (.int .i64 d) ∧ ∀ j, W.frozen? ⟨g, j, none⟩ = false :=
  ⟨cell_of_row _ _ 0 _ _ (0, 0) h.blk, cell_of_row _ _ 1 _ _ (0, 0) h.blk, cell_of_row _ _ 2 _ _ (0, 0) h.blk, fun j => by simp [World.frozen?, h.blk]⟩
theorem PAt.drewN {W : World} {g r : Nat} {ts : List Tk} {cap i d : Nat} (h : PAt W g r ts cap i d) (n : Nat) : PAt (W.drewN n) g r ts cap i d := ⟨h.blk, h.tok.drewN n, h.le, h.lt⟩
theorem PAt.below {W W' : World} {g r : Nat} {ts : List Tk} {cap i d : Nat} (h : PAt W g r ts cap i d) (b : Below W.heap.size W W') : PAt W' g r ts cap i d := ⟨(b.block g (Lx.heap_lt h.blk)).trans h.blk, h.tok.below b, h.le, h.lt⟩
theorem tkAt_get {ts : List Tk} {i : Nat} (h : i < ts.length) : tkAt ts i = ts[i] := by simp [tkAt, List.getD, List.getElem?_eq_getElem h]
theorem PAt.tk {W : World} {g r : Nat} {ts : List Tk} {cap i d : Nat} (h : PAt W g r ts cap i d) (hi : i < ts.length) :
    W.cell? ⟨r, i * 4, none⟩ = some (.int .i64 (tkAt ts i).kind) ∧ W.cell? ⟨r, i * 4 + 1, none⟩ = some (.string (Lx.mk (tkAt ts i).text)) ∧ W.cell? ⟨r, i * 4 + 2, none⟩ = some (.int .i64 (tkAt ts i).line) ∧ W.cell? ⟨r, i * 4 + 3, none⟩ = some (.int .i64 (tkAt ts i).col) := by
  rw [tkAt_get hi]; exact h.tok.at_ i hi
/-- The world has only drawn. -/
def Drew (W W' : World) : Prop := ∃ n, W' = W.drewN n

set_option maxHeartbeats 1000000 in
theorem is_any (W : World) (g r : Nat) (ts : List Tk) (cap i d k : Nat) (h : PAt W g r ts cap i d) (hi : i < ts.length) :
    Calls Try.prog 68 #[.pointer (some ⟨g, 0, none⟩), .int .i64 k] W fun e w' => e = .returned (.bool (((tkAt ts i).kind : Int) == (k : Int))) ∧ Drew W w' := by
  obtain ⟨c0, c1, c2, cf⟩ := h.facts
  obtain ⟨x0, x1, x2, x3⟩ := h.tk hi
  have hle := h.le
  clear h
  go_enter Try.func68, Try.ntmps68
  go_wp2_with fail
  go_quiet (fail)
  go_wp2
  go_ret
  exact ⟨rfl, ⟨_, rfl⟩⟩

theorem below_drew' {B : Nat} {w w' : World} (h : Below B w w') : Below B w w'.drew := ⟨h.os, h.tape, h.output, h.size, h.block⟩
/-- What a throw leaves. -/
def Thrown (W : World) (l c k : Nat) (e : Ending) (w' : World) : Prop :=
  e = .panicked [{ v := .iface 67 (.agg #[.int .i64 l, .int .i64 c, .int .i64 k]), recovered := false }] ∧ Below W.heap.size W w'

set_option maxHeartbeats 1000000 in
theorem throw_any (W : World) (g r : Nat) (ts : List Tk) (cap i d k : Nat) (h : PAt W g r ts cap i d) (hi : i < ts.length) :
    Calls Try.prog 69 #[.pointer (some ⟨g, 0, none⟩), .int .i64 k] W (Thrown W (tkAt ts i).line (tkAt ts i).col k) := by
  obtain ⟨c0, c1, c2, cf⟩ := h.facts
  obtain ⟨x0, x1, x2, x3⟩ := h.tk hi
  have hle := h.le
  have hA := fun o => h.below ((Below.refl W.heap.size W).alloc (Nat.le_refl _) o)
  have a0 := fun o => (hA o).facts.1
  have a1 := fun o => (hA o).facts.2.1
  have y0 := fun o => ((hA o).tk hi).1
  have y1 := fun o => ((hA o).tk hi).2.1
  have y2 := fun o => ((hA o).tk hi).2.2.1
  have y3 := fun o => ((hA o).tk hi).2.2.2
  clear h hA
  go_enter Try.func69, Try.ntmps69
  go_wp2_with fail
  go_region
  go_wp2
  exact ⟨rfl, rfl, below_drew' ((Below.refl _ _).alloc (Nat.le_refl _) _)⟩

set_option maxHeartbeats 1000000 in
theorem isSign_any (W : World) (g r : Nat) (ts : List Tk) (cap i d : Nat) (c : UInt8) (h : PAt W g r ts cap i d) (hi : i < ts.length) :
    Calls Try.prog 86 #[.pointer (some ⟨g, 0, none⟩), .string ⟨#[c]⟩] W fun e w' => e = .returned (.bool (isSg ts i c)) ∧ Drew W w' := by
  obtain ⟨c0, c1, c2, cf⟩ := h.facts
  obtain ⟨x0, x1, x2, x3⟩ := h.tk hi
  have hle := h.le
  have KI := fun n => is_any (W.drewN n) g r ts cap i d 3 (h.drewN n) hi
  clear h
  by_cases hk : (tkAt ts i).kind = 3
  · have hs : isSg ts i c = decide ((tkAt ts i).text = [c]) := by unfold isSg; rw [hk]; rfl
    have hb : (((tkAt ts i).kind : Int) == ((3 : Nat) : Int)) = true := by rw [hk]; rfl
    rw [hs]
    simp only [hb] at KI
    obtain ⟨tx, htx⟩ : ∃ tx, tx = Lx.mk (tkAt ts i).text := ⟨_, rfl⟩
    have htl : (tx.toList == [c]) = decide ((tkAt ts i).text = [c]) := by
      have e : tx.toList = (tkAt ts i).text := by rw [htx, Lib.toList_data]; rfl
      rw [e, Bool.eq_iff_iff]; simp
    rw [← htx] at x1
    have KI1 := Lib.hid KI
    have HI := Lib.hid htl
    clear KI hb hs htl htx hk x0 x2 x3
    go_enter Try.func86, Try.ntmps86
    go_wp2_with fail
    go_quiet ((go_at_call 68; exact Calls.quiet_of (KI1.out _)))
    go_wp2
    go_ret
    exact ⟨congrArg (fun b => Ending.returned (Value.bool b)) HI.out, ⟨_, rfl⟩⟩
  · have hs : isSg ts i c = false := by unfold isSg; simp [hk]
    have hb : (((tkAt ts i).kind : Int) == ((3 : Nat) : Int)) = false := by rw [beq_eq_false_iff_ne]; omega
    rw [hs]
    simp only [hb] at KI
    have KI1 := Lib.hid KI
    clear KI hb hs hk x0 x1 x2 x3
    go_enter Try.func86, Try.ntmps86
    go_wp2_with fail
    go_quiet ((go_at_call 68; exact Calls.quiet_of (KI1.out _)))
    go_wp2
    go_ret
    exact ⟨rfl, ⟨_, rfl⟩⟩

/-- What a call of the parser leaves: a fault that is thrown, or a value, and the parser at another token; all below its world but for the parser is as it was. -/
def Out {α : Type} (W : World) (g r : Nat) (ts : List Tk) (cap d : Nat) (R : Res α) (val : α → Value → World → Prop) (e : Ending) (w' : World) : Prop :=
  match R with
  | .no l c k => e = .panicked [{ v := .iface 67 (.agg #[.int .i64 l, .int .i64 c, .int .i64 k]), recovered := false }] ∧ Lx.Sep g W.heap.size W w'
  | .ok v j => ∃ x, e = .returned x ∧ val v x w' ∧ PAt w' g r ts cap j d ∧ Lx.Sep g W.heap.size W w'
theorem sep_drewN {g c : Nat} {a w : World} (h : Lx.Sep g c a w) (n : Nat) : Lx.Sep g c a (w.drewN n) := ⟨h.os, h.tape, h.output, h.size, h.block⟩
theorem sep_below {g c : Nat} {a w w' : World} (h : Lx.Sep g c a w) (hc : c ≤ w.heap.size) (b : Below w.heap.size w w') : Lx.Sep g c a w' := h.trans (Lx.Sep.of_below (b.mono hc))
theorem sep_drew {g c : Nat} {a w w' : World} (h : Lx.Sep g c a w) (k : Drew w w') : Lx.Sep g c a w' := by obtain ⟨n, rfl⟩ := k; exact sep_drewN h n
theorem PAt.drew {W W' : World} {g r : Nat} {ts : List Tk} {cap i d : Nat} (h : PAt W g r ts cap i d) (k : Drew W W') : PAt W' g r ts cap i d := by obtain ⟨n, rfl⟩ := k; exact h.drewN n
theorem PAt.move {W : World} {g r : Nat} {ts : List Tk} {cap i d : Nat} (h : PAt W g r ts cap i d) (j : Nat) : PAt (W.setCell ⟨g, 1, none⟩ (.int .i64 j)) g r ts cap j d := by
  refine ⟨?_, ⟨?_, fun k u hk => ?_⟩, h.le, h.lt⟩
  · exact Lx.heap_set h.blk 1 _
  · simp [World.setCell]; exact h.tok.1
  · exact (World.cell?_setCell_other W _ _ _ (fun e => by have := h.lt; injection e with e; omega)).trans (h.tok.2 k u hk)

set_option maxHeartbeats 2000000 in
theorem take_any (W : World) (g r : Nat) (ts : List Tk) (cap i d : Nat) (h : PAt W g r ts cap i d) (hE : Ended ts) (hk : (tkAt ts i).kind ≠ 4) (hn : ts.length ≤ 1048576) :
    Calls Try.prog 87 #[.pointer (some ⟨g, 0, none⟩)] W (Out W g r ts cap d (tak ts i) fun _ x _ => x = .string (Lx.mk (tkAt ts i).text)) := by
  have hi1 := hE i hk
  have hi : i < ts.length := by omega
  obtain ⟨c0, c1, c2, cf⟩ := h.facts
  obtain ⟨x0, x1, x2, x3⟩ := h.tk hi
  have hle := h.le
  have hM := fun n => (h.drewN n).move (i + 1)
  have KI := fun n => is_any ((W.drewN n).setCell ⟨g, 1, none⟩ (.int .i64 ((i + 1 : Nat) : Int))) g r ts cap (i + 1) d 4 (hM n) hi1
  have KT := fun n m => throw_any (((W.drewN n).setCell ⟨g, 1, none⟩ (.int .i64 ((i + 1 : Nat) : Int))).drewN m) g r ts cap (i + 1) d 6 ((hM n).drewN m) hi1
  have hS := fun n => Lx.Sep.setCell (g := g) (c := W.heap.size) (a := W) (w := W.drewN n) (p := ⟨g, 1, none⟩) (sep_drewN (Lx.Sep.refl g _ W) n) (.inl rfl) (.int .i64 ((i + 1 : Nat) : Int))
  have e1 : ((i + 1 : Nat) : Int) = (i : Int) + 1 := by omega
  simp only [e1] at hM hS KI KT
  clear e1
  have HS := Lib.hid hS
  have HM := Lib.hid hM
  obtain ⟨tx, htx⟩ : ∃ tx, tx = Lx.mk (tkAt ts i).text := ⟨_, rfl⟩
  rw [← htx] at x1 ⊢
  clear h hM hS htx
  by_cases h4 : i + 1 = 4096
  · have hI4 : ((i : Int) + 1 == 4096) = true := by rw [beq_iff_eq]; omega
    by_cases hk4 : (tkAt ts (i + 1)).kind = 4
    · have ht : tak ts i = .ok () (i + 1) := by unfold tak; rw [if_neg (by rw [hk4]; simp)]
      rw [ht]
      have hb : (((tkAt ts (i + 1)).kind : Int) == ((4 : Nat) : Int)) = true := by rw [hk4]; rfl
      simp only [hb] at KI
      have KI1 := Lib.hid KI
      clear KI KT hb hk4 ht h4
      go_enter Try.func87, Try.ntmps87
      go_wp2_with fail
      go_quiet (fail)
      go_wp2_with fail
      refine (KI1.out _).mono ?_
      rintro e w1 ⟨rfl, m, rfl⟩
      go_wp2
      exact bodyPost_ret (results_tmp rfl _ _ _) rfl ⟨_, rfl, rfl, (HM.out _).drewN _, sep_drewN (HS.out _) _⟩
    · have ht : tak ts i = .no (tkAt ts (i + 1)).line (tkAt ts (i + 1)).col 6 := by unfold tak; rw [if_pos ⟨h4, hk4⟩]; rfl
      rw [ht]
      have hb : (((tkAt ts (i + 1)).kind : Int) == ((4 : Nat) : Int)) = false := by rw [beq_eq_false_iff_ne]; omega
      simp only [hb] at KI
      have KI1 := Lib.hid KI
      have KT1 := Lib.hid KT
      clear KI KT hb hk4 ht h4
      go_enter Try.func87, Try.ntmps87
      go_wp2_with fail
      go_quiet (fail)
      go_wp2_with fail
      refine (KI1.out _).mono ?_
      rintro e w1 ⟨rfl, m, rfl⟩
      go_wp2_with fail
      refine (KT1.out _ _).mono ?_
      rintro e w2 ⟨rfl, b⟩
      have hsp := sep_below (sep_drewN (HS.out _) _) (by simp) b
      go_wp2
      exact ⟨rfl, rfl, hsp⟩
  · have ht : tak ts i = .ok () (i + 1) := by unfold tak; rw [if_neg (by omega)]
    rw [ht]
    have hI4 : ((i : Int) + 1 == 4096) = false := by rw [beq_eq_false_iff_ne]; omega
    clear KI KT ht h4
    go_enter Try.func87, Try.ntmps87
    go_wp2_with fail
    go_quiet (fail)
    go_wp2
    exact bodyPost_ret (results_tmp rfl _ _ _) rfl ⟨_, rfl, rfl, HM.out _, HS.out _⟩

end Go.Proofs.Ytakihbjfkpebcaa.Sx
