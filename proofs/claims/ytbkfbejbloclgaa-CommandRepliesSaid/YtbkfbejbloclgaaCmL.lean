/-
  Layer 21: what the laws open with; how a raw command reads.
-/
import Derived.Test.YtbkfbejbloclgaaCmH
import Derived.Test.YtbkfbejbloclgaaCmBk
import Derived.Test.YtbkfbejbloclgaaCmJ
namespace Go.Proofs.Ytbkfbejbloclgaa.Cm
open Go.RowKit
open Oct (pb bs Strs)
open Lx (goodB)
open Gn (Asks)
open Go.ChangeShapes Go.WideShapes
set_option maxRecDepth 100000
set_option linter.unusedSimpArgs false
set_option linter.unusedVariables false
def undoC : Cmd := ⟨11, ⟨#[97]⟩, ⟨#[]⟩, ⟨#[]⟩, ⟨#[]⟩, [], 0, 0, 0, 0⟩
theorem undo_good : goodC undoC = true := by decide +kernel
theorem undo_bytes : qCmd undoC = [1, 11, 1, 1, 97, 0, 0, 0, 0, 0, 0, 0, 0] := by decide +kernel
theorem speaks_any (w : World) : Calls Try.prog 8 #[] w (Asks true w) := by
  have HP := Lib.hid (fun (w : World) => show Calls Try.prog 10 #[.agg #[.int .i64 11, .string ⟨#[97]⟩, .string ⟨#[]⟩, .string ⟨#[]⟩, .string ⟨#[]⟩, .slice none 0 0, .int .i64 0, .int .i64 0, .int .i64 0, .int .i64 0]] w fun e w' => e = .returned (.string ⟨#[1, 11, 1, 1, 97, 0, 0, 0, 0, 0, 0, 0, 0]⟩) ∧ Below w.heap.size w w' by
    have h := put_any 11 ⟨#[97]⟩ ⟨#[]⟩ ⟨#[]⟩ ⟨#[]⟩ [] 0 0 0 0 none 0 0 w rfl ⟨rfl, fun h => absurd h (by decide)⟩ (by decide) (by decide) (by decide) (by decide) (by decide)
    have e : putC ⟨11, ⟨#[97]⟩, ⟨#[]⟩, ⟨#[]⟩, ⟨#[]⟩, [], 0, 0, 0, 0⟩ = [1, 11, 1, 1, 97, 0, 0, 0, 0, 0, 0, 0, 0] := by
      have : putC undoC = [1, 11, 1, 1, 97, 0, 0, 0, 0, 0, 0, 0, 0] := by unfold putC; rw [if_pos undo_good, undo_bytes]
      exact this
    rw [e] at h
    exact h)
  have HG := Lib.hid (fun (w : World) => show Calls Try.prog 14 #[.string ⟨#[1, 11, 1, 1, 97, 0, 0, 0, 0, 0, 0, 0, 0]⟩] w (GetOut w (undoC, 0)) by
    have h := get_any ⟨#[1, 11, 1, 1, 97, 0, 0, 0, 0, 0, 0, 0, 0]⟩ (by decide) w
    have e : getC (bs ⟨#[1, 11, 1, 1, 97, 0, 0, 0, 0, 0, 0, 0, 0]⟩) = (undoC, 0) := by
      have h := get_put undoC undo_good
      rw [undo_bytes] at h
      exact h
    rw [e] at h
    exact h)
  go_enter Try.func8, Try.ntmps8
  go_wp2_with fail
  refine (HP.out _).mono ?_
  rintro e w1 ⟨rfl, b1⟩
  go_wp2_with fail
  refine (HG.out _).mono ?_
  rintro e w2 ⟨v, rfl, ⟨a, cap, rfl, hs⟩, b2⟩
  dsimp only [undoC, List.length_nil]
  have HB := Lib.hid ((b1.trans (b2.mono b1.size)).trans ((Below.refl _ w2).alloc (by have := b1.size; have := b2.size; omega) (.cells #[.int .i64 11, .string ⟨#[97]⟩, .string ⟨#[]⟩, .string ⟨#[]⟩, .string ⟨#[]⟩, .slice a 0 cap, .int .i64 0, .int .i64 0, .int .i64 0, .int .i64 0] 28)))
  clear b1 b2 hs
  go_wp2_with fail
  go_ret
  exact ⟨rfl, HB.out⟩
def wide100 (s : ByteArray) : Bool := decide (100 < s.size)
def largeC (c : Cmd) : Bool := decide (200 < c.who.size) || decide (200 < c.nm.size) || decide (200 < c.oth.size) || decide (3000 < c.txt.size) || decide (80 < c.word.length) || c.word.any wide100
set_option maxHeartbeats 8000000 in
theorem large_any (c : Cmd) (v : Value) (w : World) (hv : CmdAt w c v) (hf : c.word.length ≤ 9223372036854775807) : Calls Try.prog 9 #[v] w (Asks (largeC c) w) := by
  obtain ⟨a, cap, rfl, hs⟩ := hv
  obtain ⟨kind, who, nm, oth, txt, word, n0, n1, n2, n3⟩ := c
  dsimp only at *
  obtain ⟨n, hnn⟩ : ∃ n, n = word.length := ⟨_, rfl⟩
  have HL := Lib.hid hnn.symm
  obtain ⟨q, hq⟩ : ∃ q, q = largeC ⟨kind, who, nm, oth, txt, word, n0, n1, n2, n3⟩ := ⟨_, rfl⟩
  rw [← hq]
  unfold largeC at hq
  dsimp only at hq
  rw [← hnn] at hs hf hq ⊢
  obtain ⟨V, hV⟩ : ∃ V, V = w.alloc (.cells #[.int .i64 kind, .string who, .string nm, .string oth, .string txt, .slice a n cap, .int .i64 n0, .int .i64 n1, .int .i64 n2, .int .i64 n3] 25) := ⟨_, rfl⟩
  have hb : Below w.heap.size w V := by rw [hV]; exact (Below.refl _ w).alloc (Nat.le_refl _) _
  have hx : V.heap[w.heap.size]? = some (.cells #[.int .i64 kind, .string who, .string nm, .string oth, .string txt, .slice a n cap, .int .i64 n0, .int .i64 n1, .int .i64 n2, .int .i64 n3] 25 (0, 0)) := by rw [hV]; exact heap_alloc_new w _
  have HS := Lib.hid (Strs.under hs hb)
  have HB := Lib.hid hb
  have HV := Lib.hid hV
  have HA0 := Lib.hid (show ∀ j, j < 0 → ∀ (h : j < word.length), wide100 word[j] = false from fun k h => absurd h (by omega))
  have x0 := cell_of_row _ _ 0 _ _ (0, 0) hx
  have x1 := cell_of_row _ _ 1 _ _ (0, 0) hx
  have x2 := cell_of_row _ _ 2 _ _ (0, 0) hx
  have x3 := cell_of_row _ _ 3 _ _ (0, 0) hx
  have x4 := cell_of_row _ _ 4 _ _ (0, 0) hx
  have x5 := cell_of_row _ _ 5 _ _ (0, 0) hx
  clear hb hV hx hs hnn
  by_cases h0 : (200 : Int) < (who.size : Int)
  · rw [show decide (200 < who.size) = true from decide_eq_true (by omega)] at hq
    simp only [Bool.true_or, Bool.or_true, Bool.false_or] at hq
    have HQ := Lib.hid hq
    clear hq
    go_enter Try.func9, Try.ntmps9
    go_upto_region 1 with fail
    rw [← HV.out]
    go_wp2
    go_ret
    exact ⟨by rw [HQ.out]; rfl, HB.out⟩
  · rw [show decide (200 < who.size) = false from decide_eq_false (by omega)] at hq
    have h0' : decide ((200 : Int) < (who.size : Int)) = false := decide_eq_false h0
    by_cases h1 : (200 : Int) < (nm.size : Int)
    · rw [show decide (200 < nm.size) = true from decide_eq_true (by omega)] at hq
      simp only [Bool.true_or, Bool.or_true, Bool.false_or] at hq
      have HQ := Lib.hid hq
      clear hq
      go_enter Try.func9, Try.ntmps9
      go_upto_region 1 with fail
      rw [← HV.out]
      go_wp2
      go_ret
      exact ⟨by rw [HQ.out]; rfl, HB.out⟩
    · rw [show decide (200 < nm.size) = false from decide_eq_false (by omega)] at hq
      have h1' : decide ((200 : Int) < (nm.size : Int)) = false := decide_eq_false h1
      by_cases h2 : (200 : Int) < (oth.size : Int)
      · rw [show decide (200 < oth.size) = true from decide_eq_true (by omega)] at hq
        simp only [Bool.true_or, Bool.or_true, Bool.false_or] at hq
        have HQ := Lib.hid hq
        clear hq
        go_enter Try.func9, Try.ntmps9
        go_upto_region 1 with fail
        rw [← HV.out]
        go_wp2
        go_ret
        exact ⟨by rw [HQ.out]; rfl, HB.out⟩
      · rw [show decide (200 < oth.size) = false from decide_eq_false (by omega)] at hq
        have h2' : decide ((200 : Int) < (oth.size : Int)) = false := decide_eq_false h2
        by_cases h3 : (3000 : Int) < (txt.size : Int)
        · rw [show decide (3000 < txt.size) = true from decide_eq_true (by omega)] at hq
          simp only [Bool.true_or, Bool.or_true, Bool.false_or] at hq
          have HQ := Lib.hid hq
          clear hq
          go_enter Try.func9, Try.ntmps9
          go_upto_region 1 with fail
          rw [← HV.out]
          go_wp2
          go_ret
          exact ⟨by rw [HQ.out]; rfl, HB.out⟩
        · rw [show decide (3000 < txt.size) = false from decide_eq_false (by omega)] at hq
          have h3' : decide ((3000 : Int) < (txt.size : Int)) = false := decide_eq_false h3
          by_cases h4 : (80 : Int) < (n : Int)
          · rw [show decide (80 < n) = true from decide_eq_true (by omega)] at hq
            simp only [Bool.true_or, Bool.or_true, Bool.false_or] at hq
            have HQ := Lib.hid hq
            clear hq
            go_enter Try.func9, Try.ntmps9
            go_upto_region 1 with fail
            rw [← HV.out]
            go_wp2
            go_ret
            exact ⟨by rw [HQ.out]; rfl, HB.out⟩
          · rw [show decide (80 < n) = false from decide_eq_false (by omega)] at hq
            have h4' : decide ((80 : Int) < (n : Int)) = false := decide_eq_false h4
            simp only [Bool.false_or] at hq
            have HQ := Lib.hid hq
            clear hq
            go_enter Try.func9, Try.ntmps9
            go_upto_region 1 with fail
            rw [← HV.out]
            go_wp2_with fail
            go_loopw [3] (fun i wr => ∃ k : Nat, i = .int .i64 k ∧ k ≤ n ∧ wr = V ∧ ∀ j, j < k → ∀ (h : j < word.length), wide100 word[j] = false) (fun i _ => n - (intOf i).toNat)
            case atStart => exact ⟨0, rfl, Nat.zero_le _, rfl, HA0.out⟩
            case round =>
              obtain ⟨k, rfl, hk, rfl, hall⟩ := hrel
              have HALL := Lib.hid hall
              clear hall
              by_cases hlt : k < n
              · have hlt2 : (k : Int) < (n : Int) := by omega
                have hks : k < word.length := by rw [HL.out]; exact hlt
                obtain ⟨b, off, rfl, hbb, hc⟩ := Strs.get HS.out k hlt
                obtain ⟨x, hx⟩ : ∃ x, x = word[k] := ⟨_, rfl⟩
                rw [← hx] at hc
                have HX := Lib.hid hx
                clear hx
                by_cases hb : (100 : Int) < (x.size : Int)
                · have HP := Lib.hid (show q = true by
                    rw [HQ.out]
                    exact List.any_eq_true.2 ⟨word[k], List.getElem_mem _, by rw [← HX.out]; exact decide_eq_true (by omega)⟩)
                  clear HQ
                  go_wp2
                  go_ret
                  exact ⟨by rw [HP.out]; rfl, HB.out⟩
                · have HN := Lib.hid (show ∀ j, j < k + 1 → ∀ (h : j < word.length), wide100 word[j] = false from fun j hj h => by
                    by_cases hjk : j = k
                    · subst hjk; rw [← HX.out]; exact decide_eq_false (by omega)
                    · exact HALL.out j (by omega) h)
                  go_wp2
                  refine ⟨⟨k + 1, by go_num, by omega, by trivial, HN.out⟩, by simp [intOf]; omega⟩
              · have hke : k = n := by omega
                subst hke
                have HP := Lib.hid (show q = false from by
                  rw [HQ.out, Bool.eq_false_iff]
                  intro h
                  obtain ⟨y, hy, hy2⟩ := List.any_eq_true.1 h
                  obtain ⟨j, hj, rfl⟩ := List.getElem_of_mem hy
                  rw [HALL.out j (by rw [← HL.out]; exact hj) hj] at hy2
                  cases hy2)
                clear HQ
                go_wp2
                go_ret
                exact ⟨by rw [HP.out]; rfl, HB.out⟩

section
variable {H : Type} {enc : TypeId × Value → H} {w : World} {base : Nat} {held : Bool}
theorem addr_at {x : Addr} {v : Value} (h : w.cell? (x.add 0) = some v) : ∃ b off, x = ⟨b, off, none⟩ ∧ b < w.heap.size := by
  obtain ⟨b, off, spot⟩ := x
  have hspot : spot = none := by simpa [Addr.add] using World.cell?_spot h
  subst hspot
  exact ⟨b, off, rfl, by simpa [Addr.add] using World.block_lt_of_cell? w _ h⟩
theorem addr_add (b off i : Nat) : (⟨b, off, none⟩ : Addr).add i = ⟨b, off + i, none⟩ := by unfold Addr.add; split <;> simp_all
theorem strs_of {fuel : Nat} {v : Value} {y : DataW H × List MemPlace} (h : DataW.trod enc Try.prog w base (fun _ => true) held fuel 22 [v] = some y) :
    ∃ a len cap ss, v = .slice a len cap ∧ Strs w a len ss ∧ len ≤ 9223372036854775807 ∧ ∀ s ∈ ss, s.size ≤ maxLen := by
  rcases open_strings Try.underlying22 Try.underlying9 (by kernel_rfl) h with ⟨hcs, _⟩ | ⟨x, l, c, ss, hcs, _, hl, hm, hz, _, hcell, hsz⟩
  · injection hcs with hcs
    exact ⟨none, 0, 0, [], hcs, ⟨rfl, fun h => absurd h (by omega)⟩, by omega, fun s hs => by cases hs⟩
  · injection hcs with hcs
    have hzl : l ≤ ss.length := by rw [hz]; split <;> omega
    unfold maxLen at hm
    refine ⟨some x, l, c, ss.take l, hcs, ⟨by rw [List.length_take]; omega, fun h0 => ?_⟩, by omega, fun s hs => hsz s (List.mem_of_mem_take hs)⟩
    obtain ⟨b, off, rfl, hb⟩ := addr_at (hcell 0 (by omega))
    refine ⟨b, off, rfl, hb, fun i hi => ?_⟩
    rw [← addr_add, hcell i (by omega)]
    simp [List.getD, List.getElem?_take_of_lt hi]
/-- Sizes that memory can bear. -/
structure Short (c : Cmd) : Prop where
  who : c.who.size ≤ 9223372036854775807
  nm : c.nm.size ≤ 9223372036854775807
  oth : c.oth.size ≤ 9223372036854775807
  txt : c.txt.size ≤ 9223372036854775807
  word : c.word.length ≤ 9223372036854775807
theorem raw_in {fuel : Nat} {c0 c1 c2 c3 c4 c5 c6 c7 c8 c9 : Value} {y : DataW H × List MemPlace} (h : DataW.trod enc Try.prog w base (fun _ => true) held fuel 25 [c0, c1, c2, c3, c4, c5, c6, c7, c8, c9] = some y) :
    ∃ c : Cmd, CmdAt w c (.agg #[c0, c1, c2, c3, c4, c5, c6, c7, c8, c9]) ∧ Short c := by
  obtain ⟨xs, m, _, _, _, hlen, hf⟩ := DataW.trod_struct Try.underlying25 h
  match xs, hlen with
  | [y0, y1, y2, y3, y4, y5, y6], _ =>
    have f0 := hf 0 _ rfl
    have f1 := hf 1 _ rfl
    have f2 := hf 2 _ rfl
    have f3 := hf 3 _ rfl
    have f4 := hf 4 _ rfl
    have f5 := hf 5 _ rfl
    have f6 := hf 6 _ rfl
    simp only [List.getElem?_cons_zero, List.getElem?_cons_succ] at f0 f1 f2 f3 f4 f5 f6
    obtain ⟨k, h0, _, _⟩ := DataW.trod_int Try.underlying3 f0
    obtain ⟨t1, h1, _, z1⟩ := DataW.trod_string Try.underlying9 f1
    obtain ⟨t2, h2, _, z2⟩ := DataW.trod_string Try.underlying9 f2
    obtain ⟨t3, h3, _, z3⟩ := DataW.trod_string Try.underlying9 f3
    obtain ⟨t4, h4, _, z4⟩ := DataW.trod_string Try.underlying9 f4
    obtain ⟨a, n, cap, ss, h5, hs, hn, _⟩ := strs_of f5
    obtain ⟨y0', y1', y2', y3', n', _, g0, g1, g2, g3⟩ := trod_array4 Try.underlying23 (by kernel_rfl) f6
    obtain ⟨i0, k0, _, _⟩ := DataW.trod_int Try.underlying3 g0
    obtain ⟨i1, k1, _, _⟩ := DataW.trod_int Try.underlying3 g1
    obtain ⟨i2, k2, _, _⟩ := DataW.trod_int Try.underlying3 g2
    obtain ⟨i3, k3, _, _⟩ := DataW.trod_int Try.underlying3 g3
    injection h0 with h0
    injection h1 with h1
    injection h2 with h2
    injection h3 with h3
    injection h4 with h4
    injection k0 with k0
    injection k1 with k1
    injection k2 with k2
    injection k3 with k3
    subst h0 h1 h2 h3 h4 h5 k0 k1 k2 k3
    unfold maxLen at z1 z2 z3 z4
    refine ⟨⟨k, t1, t2, t3, t4, ss, i0, i1, i2, i3⟩, ⟨a, cap, ?_, ?_⟩, ⟨z1, z2, z3, z4, ?_⟩⟩
    · dsimp only; rw [hs.1]
    · dsimp only; rw [hs.1]; exact hs
    · show ss.length ≤ _; rw [hs.1]; exact hn
end
theorem arr10 : ∀ cs : Array Value, cs.size = 10 → ∃ c0 c1 c2 c3 c4 c5 c6 c7 c8 c9, cs = #[c0, c1, c2, c3, c4, c5, c6, c7, c8, c9]
  | ⟨[c0, c1, c2, c3, c4, c5, c6, c7, c8, c9]⟩, _ => ⟨c0, c1, c2, c3, c4, c5, c6, c7, c8, c9, rfl⟩
theorem raw_cells : Try.prog.cellsOf 25 = 10 := by kernel_rfl
theorem raw_arg {W : World} {base : Nat} {v : Value} (h : Value.okWide Try.prog W .any base 25 v) : ∃ c0 c1 c2 c3 c4 c5 c6 c7 c8 c9, v = .agg #[c0, c1, c2, c3, c4, c5, c6, c7, c8, c9] := by
  obtain ⟨cs, rfl, hcs⟩ := okWide_struct Try.underlying25 h
  rw [raw_cells] at hcs
  obtain ⟨c0, c1, c2, c3, c4, c5, c6, c7, c8, c9, rfl⟩ := arr10 cs hcs
  exact ⟨c0, c1, c2, c3, c4, c5, c6, c7, c8, c9, rfl⟩
end Go.Proofs.Ytbkfbejbloclgaa.Cm
