/-
  Layer 18: a student joins a class, in its place.
-/
import Derived.Test.YtdkcfhmdgignhaaRlSIns
namespace Go.Proofs.Ytdkcfhmdgignhaa.Rl
open Go.RowKit
open Fx (StrsAt)
set_option maxRecDepth 100000
set_option linter.unusedSimpArgs false
set_option linter.unusedVariables false
def insN (l : List ByteArray) (x : ByteArray) : List ByteArray := l.take (plc l x) ++ [x] ++ l.drop (plc l x)
/-- What join leaves: the class's students' slice is another one. -/
def JoinOut (base g o : Nat) (l : List ByteArray) (x : ByteArray) (sv : Value) (W : World) (e : Ending) (w' : World) : Prop := e = .returned (.tuple #[]) ∧ ∃ (w1 : World) (sv' : Value), w' = w1.setCell ⟨g, o + 2, none⟩ sv' ∧ W.grownBy w1 sv.ownBlock ∧ StrsAt (fun b => base ≤ b ∧ (sv.ownBlock = some b ∨ W.heap.size ≤ b)) w1 (insN l x) sv'
set_option maxHeartbeats 4000000 in
theorem join_any (base g o : Nat) (l : List ByteArray) (x : ByteArray) (W : World) (sv : Value) (cur : Array Value) (T : TypeId) (hg : W.heap[g]? = some (.cells cur T (0, 0))) (hc : W.cell? ⟨g, o + 2, none⟩ = some sv) (hown : W.ownsRow base 9 1 sv l.length (l.map Value.string)) (hb : base ≤ W.heap.size) (hs : Rising l) (hn : l.length ≤ 4000) (hgb : sv.ownBlock ≠ some g) :
    Calls Try.prog 51 #[.pointer (some ⟨g, o, none⟩), .string x] W (JoinOut base g o l x sv W) := by
  obtain ⟨A, cap, rfl⟩ := Gn.slice_of hown
  obtain ⟨n, hnn⟩ : ∃ n, n = l.length := ⟨_, rfl⟩
  obtain ⟨p, hp⟩ : ∃ p, p = plc l x := ⟨_, rfl⟩
  have hpl : p ≤ l.length := by rw [hp]; exact plc_le x l
  have HBI := Lib.hid ((bin_any l x _ W _ (strs_own hown) hs (by omega)).mono fun e w' hh => show ∃ f, e = .returned (.tuple #[.int .i64 p, .bool f]) ∧ Below W.heap.size W w' from ⟨_, by rw [hp]; exact hh.1, hh.2⟩)
  rw [← hnn] at HBI hc hgb hown ⊢
  have HOW := Lib.hid hown
  have HNN := Lib.hid hnn
  have HP := Lib.hid hp
  have HG := Lib.hid hg
  have HGB := Lib.hid hgb
  have HPL := Lib.hid hpl
  have HCC := Lib.hid hc
  have HN4 := Lib.hid hn
  clear hown hnn hp hg hgb hpl hs hn
  go_enter Try.func51, Try.ntmps51
  go_wp2_with fail
  refine HBI.out.mono ?_
  rintro e w2 ⟨f, rfl, hb2⟩
  have hg2 := (hb2.block _ (Gn.heap_lt HG.out)).trans HG.out
  have hc2 := (hb2.cell (p := ⟨g, o + 2, none⟩) (Gn.heap_lt HG.out)).trans hc
  have ho2 : w2.ownsRow base 9 1 (.slice A n cap) n (l.map Value.string) := own_keep HOW.out fun q hq => hb2.block q (Gn.own_lt HOW.out q hq)
  obtain ⟨W3, hW3⟩ : ∃ W3, W3 = w2.alloc (.cells #[.string x] 9) := ⟨_, rfl⟩
  have hb3 : Below w2.heap.size w2 W3 := by rw [hW3]; exact (Below.refl _ _).alloc (Nat.le_refl _) _
  have hv3 : W3.heap[w2.heap.size]? = some (.cells #[.string x] 9 (0, 0)) := by rw [hW3]; exact heap_alloc_new _ _
  have ho3 : W3.ownsRow base 9 1 (.slice A n cap) l.length (l.map Value.string) := by rw [← HNN.out]; exact own_keep ho2 fun q hq => hb3.block q (Gn.own_lt ho2 q hq)
  have HIN := Lib.hid (sins_any base W3 (.slice A n cap) l p x w2.heap.size ho3 (Nat.le_trans hb (Nat.le_trans hb2.size hb3.size)) HPL.out (by have := HN4.out; omega) hv3 (fun e => by have := Gn.own_lt ho2 _ e; omega))
  have HST := Lib.hid (show ∀ (w4 : World), W3.grownBy w4 (Value.slice A n cap).ownBlock → W.grownBy w4 (Value.slice A n cap).ownBlock from fun w4 h => ⟨h.os.trans (hb3.os.trans hb2.os), h.tape.trans (hb3.tape.trans hb2.tape), h.output.trans (hb3.output.trans hb2.output), Nat.le_trans hb2.size (Nat.le_trans hb3.size h.size), fun q hq hne => (h.block q (by have := hb2.size; have := hb3.size; omega) hne).trans ((hb3.block q (by have := hb2.size; omega)).trans (hb2.block q hq))⟩)
  have HZ := Lib.hid (Nat.le_trans hb2.size hb3.size)
  have hg3 := (hb3.block _ (Gn.heap_lt hg2)).trans hg2
  have HG3 := Lib.hid hg3
  have HW3 := Lib.hid hW3
  clear hb2 hg2 ho2 hW3 hb3 hv3 ho3 hg3 hc
  go_upto_region 1 with fail
  go_wp2_with fail
  refine (by rw [← HW3.out]; exact HIN.out : Calls _ _ _ _ _).mono ?_
  rintro e w4 ⟨v4, rfl, hst, hg4⟩
  obtain ⟨A4, c4, hv4⟩ := hst.form
  obtain ⟨n4, hn4⟩ : ∃ n4, n4 = (l.take p ++ [x] ++ l.drop p).length := ⟨_, rfl⟩
  rw [← hn4] at hv4
  subst hv4
  have hg5 : w4.heap[g]? = some (.cells cur T (0, 0)) := (hg4.block g (Gn.heap_lt HG3.out) (fun e => HGB.out e.symm)).trans HG3.out
  have hc5 : w4.cell? ⟨g, o + 2, none⟩ = some (.slice A n cap) := by
    have h1 := HCC.out
    rw [cell_of_row _ _ (o + 2) _ _ (0, 0) HG.out] at h1
    rw [cell_of_row _ _ (o + 2) _ _ (0, 0) hg5]
    exact h1
  have hf5 := Gn.frozen_row hg5 (o + 2)
  have HFI := Lib.hid (show JoinOut base g o l x (.slice A n cap) W (.returned (.tuple #[])) (w4.setCell ⟨g, o + 2, none⟩ (.slice A4 n4 c4)) from ⟨rfl, w4, _, rfl, HST.out w4 hg4, by
    unfold insN
    rw [← HP.out]
    exact hst.keep (Nat.le_refl _) fun q hq _ => ⟨⟨hq.1, hq.2.elim .inl (fun h => .inr (by have := HZ.out; omega))⟩, fun _ => rfl⟩⟩)
  clear hst hg4 hn4 hg5 hc2
  go_wp2_with fail
  refine bodyPost_ret (results_none rfl _ _ _) rfl ?_
  exact HFI.out
end Go.Proofs.Ytdkcfhmdgignhaa.Rl
