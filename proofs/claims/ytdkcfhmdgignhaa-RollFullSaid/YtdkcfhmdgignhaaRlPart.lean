/-
  Layer 18: a student parts from a class.
-/
import Derived.Test.YtdkcfhmdgignhaaRlSIns
import Derived.Test.YtdkcfhmdgignhaaRlDel
namespace Go.Proofs.Ytdkcfhmdgignhaa.Rl
open Go.RowKit
open Fx (StrsAt)
set_option maxRecDepth 100000
set_option linter.unusedSimpArgs false
set_option linter.unusedVariables false
def delN (l : List ByteArray) (x : ByteArray) : List ByteArray := l.take (plc l x) ++ l.drop (plc l x + 1)
/-- The names without that one. -/
def outN (l : List ByteArray) (x : ByteArray) : List ByteArray := if hasN l x = true then delN l x else l
theorem hasN_lt {l : List ByteArray} {x : ByteArray} (hs : Rising l) (h : hasN l x = true) : plc l x < l.length := by
  obtain ⟨h1, _⟩ := (plc_mem l x hs).2 (hasN_iff.1 h)
  exact h1
theorem delN_len {l : List ByteArray} {x : ByteArray} (h : plc l x < l.length) : (delN l x).length = l.length - 1 := by
  unfold delN
  rw [List.length_append, List.length_take, List.length_drop]; omega
/-- What part leaves. -/
structure PartS (base g o : Nat) (T : TypeId) (cur : Array Value) (l : List ByteArray) (sv : Value) (W w' : World) (sv' : Value) : Prop where
  row : w'.heap[g]? = some (.cells (cur.setIfInBounds (o + 2) sv') T (0, 0))
  own : w'.ownsRow base 9 1 sv' l.length (l.map Value.string)
  blk : sv'.ownBlock = sv.ownBlock
  os : w'.os = W.os
  tape : w'.tape = W.tape
  output : w'.output = W.output
  size : W.heap.size ≤ w'.heap.size
  keep : ∀ k, k < W.heap.size → k ≠ g → sv.ownBlock ≠ some k → w'.heap[k]? = W.heap[k]?
def PartOut (base g o : Nat) (T : TypeId) (cur : Array Value) (l : List ByteArray) (x : ByteArray) (sv : Value) (W : World) (e : Ending) (w' : World) : Prop := e = .returned (.tuple #[]) ∧ ∃ sv', PartS base g o T cur (outN l x) sv W w' sv'
theorem set_there {cur : Array Value} {i : Nat} {v : Value} (h : cur[i]? = some v) : cur.setIfInBounds i v = cur := by
  apply Array.ext_getElem?
  intro j
  by_cases e : i = j
  · subst e
    have hi : i < cur.size := by
      rcases Nat.lt_or_ge i cur.size with h1 | h1
      · exact h1
      · rw [Array.getElem?_eq_none h1] at h; cases h
    rw [h, Array.getElem?_setIfInBounds_self_of_lt hi]
  · rw [Array.getElem?_setIfInBounds_ne e]
set_option maxHeartbeats 4000000 in
theorem part_any (base g o : Nat) (l : List ByteArray) (x : ByteArray) (W : World) (sv : Value) (cur : Array Value) (T : TypeId) (hg : W.heap[g]? = some (.cells cur T (0, 0))) (hc : W.cell? ⟨g, o + 2, none⟩ = some sv) (hown : W.ownsRow base 9 1 sv l.length (l.map Value.string)) (hb : base ≤ W.heap.size) (hs : Rising l) (hn : l.length ≤ 4000) (hgb : sv.ownBlock ≠ some g) :
    Calls Try.prog 90 #[.pointer (some ⟨g, o, none⟩), .string x] W (PartOut base g o T cur l x sv W) := by
  obtain ⟨A, cap, rfl⟩ := Gn.slice_of hown
  obtain ⟨n, hnn⟩ : ∃ n, n = l.length := ⟨_, rfl⟩
  obtain ⟨p, hp⟩ : ∃ p, p = plc l x := ⟨_, rfl⟩
  obtain ⟨fd, hfd⟩ : ∃ fd, fd = hasN l x := ⟨_, rfl⟩
  have hpl : fd = true → p < l.length := fun e => by rw [hp]; exact hasN_lt hs (by rw [← hfd]; exact e)
  have HBI := Lib.hid ((bin_any l x _ W _ (strs_own hown) hs (by omega)).mono fun e w' hh => show e = .returned (.tuple #[.int .i64 p, .bool fd]) ∧ Below W.heap.size W w' from ⟨by rw [hp, hfd]; exact hh.1, hh.2⟩)
  rw [← hnn] at HBI hc hgb hown ⊢
  have HOW := Lib.hid hown
  have HNN := Lib.hid hnn
  have HP := Lib.hid hp
  have HFD := Lib.hid hfd
  have HG := Lib.hid hg
  have HGB := Lib.hid hgb
  have HPL := Lib.hid hpl
  have HCC := Lib.hid hc
  have HN4 := Lib.hid hn
  clear hown hnn hp hfd hg hgb hpl hs hn
  go_enter Try.func90, Try.ntmps90
  go_wp2_with fail
  refine HBI.out.mono ?_
  rintro e w2 ⟨rfl, hb2⟩
  have hg2 := (hb2.block _ (Gn.heap_lt HG.out)).trans HG.out
  have hc2 := (hb2.cell (p := ⟨g, o + 2, none⟩) (Gn.heap_lt HG.out)).trans hc
  have ho2 : w2.ownsRow base 9 1 (.slice A n cap) n (l.map Value.string) := own_keep HOW.out fun q hq => hb2.block q (Gn.own_lt HOW.out q hq)
  cases fd with
  | false =>
    have HFI := Lib.hid (show PartOut base g o T cur l x (.slice A n cap) W (.returned (.tuple #[])) w2 from ⟨rfl, .slice A n cap, by
      have h1 := hc2
      rw [cell_of_row _ _ (o + 2) _ _ (0, 0) hg2] at h1
      rw [set_there h1]; exact hg2, by
      unfold outN
      rw [← HFD.out, if_neg (by decide), ← HNN.out]
      exact ho2, rfl, hb2.os, hb2.tape, hb2.output, hb2.size, fun k hk _ _ => hb2.block k hk⟩)
    clear hb2 hg2 hc2 ho2 hc
    go_wp2_with fail
    refine bodyPost_ret (results_none rfl _ _ _) rfl ?_
    exact HFI.out
  | true =>
    have hpl := HPL.out rfl
    obtain ⟨b, rfl⟩ : ∃ b, A = some ⟨b, 0, none⟩ := by
      rcases ho2.2 with ⟨_, h0⟩ | ⟨b, _, _, h0, _⟩
      · have := HNN.out; omega
      · injection h0 with h0
        exact ⟨b, h0⟩
    have HDE := Lib.hid (del_S base w2 b cap n p (l.map Value.string) ho2 (by have := HN4.out; have := HNN.out; omega) (by have := HNN.out; omega) (fun u hu => by
      obtain ⟨y, _, rfl⟩ := List.mem_map.1 hu
      rfl) (Nat.le_trans hb hb2.size))
    have hw1 : IntKind.i64.wrap ((p : Int) + 1) = ((p + 1 : Nat) : Int) := IntWalk.i64_in _ (by have := HN4.out; omega)
    have HB2 := Lib.hid hb2
    have HG2 := Lib.hid hg2
    have HPL2 := Lib.hid hpl
    clear hb2 hg2 ho2 hc hpl
    go_wp2_with fail
    refine HDE.out.mono ?_
    rintro e w4 ⟨rfl, ho4, hg4⟩
    have hg5 : w4.heap[g]? = some (.cells cur T (0, 0)) := (hg4.block g (Gn.heap_lt HG2.out) (fun e => HGB.out e.symm)).trans HG2.out
    have hf5 := Gn.frozen_row hg5 (o + 2)
    have hc5 : w4.cell? ⟨g, o + 2, none⟩ = some (.slice (some ⟨b, 0, none⟩) n cap) := by
      have h1 := hc2
      rw [cell_of_row _ _ (o + 2) _ _ (0, 0) HG2.out] at h1
      rw [cell_of_row _ _ (o + 2) _ _ (0, 0) hg5]
      exact h1
    have HFI := Lib.hid (show PartOut base g o T cur l x (.slice (some ⟨b, 0, none⟩) n cap) W (.returned (.tuple #[])) (w4.setCell ⟨g, o + 2, none⟩ (.slice (some ⟨b, 0, none⟩) (n - 1) cap)) from ⟨rfl, _, Gn.heap_set hg5 (o + 2) _, by
      unfold outN
      have hl : (delN l x).length = n - 1 := by rw [delN_len (by rw [← HP.out]; exact HPL2.out), ← HNN.out]
      have hm : (delN l x).map Value.string = (l.map Value.string).take p ++ (l.map Value.string).drop (p + 1) := by
        unfold delN
        rw [← HP.out, List.map_append, List.map_take, List.map_drop]
      rw [← HFD.out, if_pos rfl, hl, hm]
      exact own_keep ho4 fun q hq => Gn.set_keep _ _ _ (fun e => HGB.out (by rw [e]; exact hq)), rfl, hg4.os.trans HB2.out.os, hg4.tape.trans HB2.out.tape, hg4.output.trans HB2.out.output, by
      have := hg4.size; have := HB2.out.size
      simp [World.setCell]; omega, fun k hk h1 h2 => (Gn.set_keep _ _ _ (fun e => h1 e.symm)).trans ((hg4.block k (by have := HB2.out.size; omega) (fun e => h2 e.symm)).trans (HB2.out.block k hk))⟩)
    clear ho4 hg4 hg5 hc2
    go_wp2_with fail
    refine bodyPost_ret (results_none rfl _ _ _) rfl ?_
    exact HFI.out
end Go.Proofs.Ytdkcfhmdgignhaa.Rl
