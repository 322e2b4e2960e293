/-
  Layer 23: raw messages, and whether they are too large.
-/
import Derived.Test.YtfeelmblnkpfdaaDoorMsSk
import Derived.ChangeSlices
import Derived.SliceStrings
namespace Go.Proofs.YtfeelmblnkpfdaaDoor.Ms
open Go.ChangeShapes Go.WideShapes
open Go.RowKit
set_option maxRecDepth 100000
set_option linter.unusedSimpArgs false
set_option linter.unusedVariables false

/-- The cells of a raw message. -/
def cellsR (m : Msg) (a : Option Addr) (cap : Nat) (b : Option Addr) (cap2 : Nat) : Array Value := #[.int .i64 m.kind, .int .i64 m.frm, .int .i64 m.born, .int .i64 m.view, .int .i64 m.last, .int .i64 m.op, .int .i64 m.commit, .int .i64 m.client, .int .i64 m.number, .int .i64 m.nonce, .int .i64 m.base, .slice a m.known.length cap, .string m.text, .bool m.full, .string m.state, .slice b m.ents.length cap2]
def RawAt (W : World) (m : Msg) (v : Value) : Prop := ∃ a cap b cap2, v = .agg (cellsR m a cap b cap2) ∧ Ints W a m.known.length m.known ∧ Ents W b m.ents.length m.ents
theorem RawAt.under {W W' : World} {m : Msg} {v : Value} (h : RawAt W m v) (b : Below W.heap.size W W') : RawAt W' m v := by
  obtain ⟨a, cap, c, cap2, e, h1, h2⟩ := h
  exact ⟨a, cap, c, cap2, e, h1.under b, h2.under b⟩
def LargeOut (n nn : Nat) (w : World) (e : Ending) (w' : World) : Prop := ∃ q : Bool, e = .returned (.bool q) ∧ (q = false → n ≤ 20 ∧ nn ≤ 80) ∧ Below w.heap.size w w'
structure Short (m : Msg) : Prop where
  text : m.text.size ≤ 9223372036854775807
  state : m.state.size ≤ 9223372036854775807
  known : m.known.length ≤ 9223372036854775807
  ents : m.ents.length ≤ 9223372036854775807
set_option maxHeartbeats 8000000 in
theorem large_any (m : Msg) (v : Value) (w : World) (hv : RawAt w m v) (hf : Short m) :
    Calls Tryd.prog 7 #[v] w (LargeOut m.known.length m.ents.length w) := by
  obtain ⟨a, cap, b, cap2, rfl, hi, he⟩ := hv
  obtain ⟨n, hn⟩ : ∃ n, n = m.known.length := ⟨_, rfl⟩
  obtain ⟨nn, hnn⟩ : ∃ n, n = m.ents.length := ⟨_, rfl⟩
  have hf2 := hf.ents
  unfold cellsR
  rw [← hnn] at he hf2
  rw [← hn, ← hnn]
  obtain ⟨V, hV⟩ : ∃ V, V = w.alloc (.cells #[.int .i64 m.kind, .int .i64 m.frm, .int .i64 m.born, .int .i64 m.view, .int .i64 m.last, .int .i64 m.op, .int .i64 m.commit, .int .i64 m.client, .int .i64 m.number, .int .i64 m.nonce, .int .i64 m.base, .slice a n cap, .string m.text, .bool m.full, .string m.state, .slice b nn cap2] 26) := ⟨_, rfl⟩
  have hb : Below w.heap.size w V := by rw [hV]; exact (Below.refl _ w).alloc (Nat.le_refl _) _
  have hx : V.heap[w.heap.size]? = some (.cells #[.int .i64 m.kind, .int .i64 m.frm, .int .i64 m.born, .int .i64 m.view, .int .i64 m.last, .int .i64 m.op, .int .i64 m.commit, .int .i64 m.client, .int .i64 m.number, .int .i64 m.nonce, .int .i64 m.base, .slice a n cap, .string m.text, .bool m.full, .string m.state, .slice b nn cap2] 26 (0, 0)) := by rw [hV]; exact heap_alloc_new w _
  have HE := Lib.hid (he.under hb)
  have HL := Lib.hid hnn
  have HB := Lib.hid hb
  have HV := Lib.hid hV
  have x11 := cell_of_row _ _ 11 _ _ (0, 0) hx
  have x12 := cell_of_row _ _ 12 _ _ (0, 0) hx
  have x14 := cell_of_row _ _ 14 _ _ (0, 0) hx
  have x15 := cell_of_row _ _ 15 _ _ (0, 0) hx
  clear hb hV hx hi he hf hn hnn
  by_cases h0 : (9000 : Int) < (m.text.size : Int)
  · go_enter Tryd.func7, Tryd.ntmps7
    go_upto_region 1 with fail
    rw [← HV.out]
    go_wp2
    go_ret
    exact ⟨true, rfl, (fun h => nomatch h), HB.out⟩
  · have h0' : decide ((9000 : Int) < (m.text.size : Int)) = false := decide_eq_false h0
    by_cases h1 : (3000 : Int) < (m.state.size : Int)
    · go_enter Tryd.func7, Tryd.ntmps7
      go_upto_region 1 with fail
      rw [← HV.out]
      go_wp2
      go_ret
      exact ⟨true, rfl, (fun h => nomatch h), HB.out⟩
    · have h1' : decide ((3000 : Int) < (m.state.size : Int)) = false := decide_eq_false h1
      by_cases h2 : (20 : Int) < (n : Int)
      · go_enter Tryd.func7, Tryd.ntmps7
        go_upto_region 1 with fail
        rw [← HV.out]
        go_wp2
        go_ret
        exact ⟨true, rfl, (fun h => nomatch h), HB.out⟩
      · have h2' : decide ((20 : Int) < (n : Int)) = false := decide_eq_false h2
        by_cases h3 : (80 : Int) < (nn : Int)
        · go_enter Tryd.func7, Tryd.ntmps7
          go_upto_region 1 with fail
          rw [← HV.out]
          go_wp2
          go_ret
          exact ⟨true, rfl, (fun h => nomatch h), HB.out⟩
        · have h3' : decide ((80 : Int) < (nn : Int)) = false := decide_eq_false h3
          go_enter Tryd.func7, Tryd.ntmps7
          go_upto_region 1 with fail
          rw [← HV.out]
          go_wp2_with fail
          go_loopw [3] (fun i wr => ∃ k : Nat, i = .int .i64 k ∧ k ≤ nn ∧ wr = V) (fun i _ => nn - (intOf i).toNat)
          case atStart => exact ⟨0, rfl, Nat.zero_le _, rfl⟩
          case round =>
            obtain ⟨k, rfl, hk, rfl⟩ := hrel
            by_cases hlt : k < nn
            · have hlt2 : (k : Int) < (nn : Int) := by omega
              obtain ⟨b, off, rfl, hbb, hd0, hd1, hd2⟩ := HE.out.get k hlt
              obtain ⟨x, hx⟩ : ∃ x, x = (m.ents[k]'(by rw [← HL.out]; exact hlt)).text := ⟨_, rfl⟩
              rw [← hx] at hd2
              clear hx hd0 hd1
              by_cases h9 : (9000 : Int) < (x.size : Int)
              · go_wp2
                go_ret
                exact ⟨true, rfl, (fun h => nomatch h), HB.out⟩
              · have h9' : decide ((9000 : Int) < (x.size : Int)) = false := decide_eq_false h9
                by_cases hk3 : (3 : Int) < (k : Int)
                · by_cases h5 : (50 : Int) < (x.size : Int)
                  · go_wp2
                    go_ret
                    exact ⟨true, rfl, (fun h => nomatch h), HB.out⟩
                  · have h5' : decide ((50 : Int) < (x.size : Int)) = false := decide_eq_false h5
                    go_wp2
                    refine ⟨⟨k + 1, by go_num, by omega, by trivial⟩, by simp [intOf]; omega⟩
                · have hk3' : decide ((3 : Int) < (k : Int)) = false := decide_eq_false hk3
                  go_wp2
                  refine ⟨⟨k + 1, by go_num, by omega, by trivial⟩, by simp [intOf]; omega⟩
            · have hke : k = nn := by omega
              subst hke
              go_wp2
              go_ret
              exact ⟨false, rfl, fun _ => by omega, HB.out⟩
end Go.Proofs.YtfeelmblnkpfdaaDoor.Ms
