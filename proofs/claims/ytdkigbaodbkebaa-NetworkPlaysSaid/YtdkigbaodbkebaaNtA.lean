/-
  Layer 27: a network in memory; Count, remainder, place.
-/
import Derived.Test.YtdkigbaodbkebaaGn
import Derived.Laws.Pointers
namespace Go.Proofs.Ytdkigbaodbkebaa.Nt
open Go.RowKit
set_option maxRecDepth 100000
set_option linter.unusedSimpArgs false
set_option linter.unusedVariables false

/-- A frame under way. -/
structure Fr where
  frm : Int
  dst : Int
  bytes : ByteArray
  sp : Bool
def frC (f : Fr) : List Value := [.int .i64 f.frm, .int .i64 f.dst, .string f.bytes, .bool f.sp]
def frsC (l : List Fr) : List Value := l.flatMap frC
theorem frsC_nil : frsC [] = [] := rfl
theorem frsC_cons (f : Fr) (l : List Fr) : frsC (f :: l) = frC f ++ frsC l := rfl
theorem frsC_app (a b : List Fr) : frsC (a ++ b) = frsC a ++ frsC b := by simp [frsC]
theorem frsC_len (l : List Fr) : (frsC l).length = l.length * 4 := by
  induction l with
  | nil => rfl
  | cons f l ih => rw [frsC_cons, List.length_append, ih, List.length_cons]; simp [frC]; omega
theorem frsC_get (l : List Fr) (i j : Nat) (hi : i < l.length) (hj : j < 4) : (frsC l)[i * 4 + j]? = (frC l[i])[j]? := by
  induction l generalizing i with
  | nil => simp at hi
  | cons f l ih =>
    rw [frsC_cons]
    cases i with
    | zero => rw [List.getElem?_append_left (by simp [frC]; omega)]; simp
    | succ i =>
      rw [List.getElem?_append_right (by simp [frC]; omega)]
      have := ih i (by simpa using hi)
      simp only [List.getElem_cons_succ]
      rw [← this]
      congr 1
      simp [frC]
      omega
theorem frC_one (f : Fr) : ∀ u ∈ frC f, u.oneCell' = true := by
  intro u hu
  simp only [frC, List.mem_cons, List.not_mem_nil, or_false] at hu
  rcases hu with rfl | rfl | rfl | rfl <;> rfl
theorem frsC_one (l : List Fr) : ∀ u ∈ frsC l, u.oneCell' = true := by
  intro u hu
  rw [frsC, List.mem_flatMap] at hu
  obtain ⟨f, _, hf⟩ := hu
  exact frC_one f u hf
theorem frsC_take (l : List Fr) (k : Nat) : (frsC l).take (k * 4) = frsC (l.take k) := by
  by_cases hk : k ≤ l.length
  · have h := frsC_app (l.take k) (l.drop k)
    rw [List.take_append_drop] at h
    have hl : (frsC (l.take k)).length = k * 4 := by rw [frsC_len, List.length_take]; omega
    rw [h, ← hl, List.take_left]
  · rw [List.take_of_length_le (by rw [frsC_len]; omega), List.take_of_length_le (by omega)]
theorem frsC_drop (l : List Fr) (k : Nat) : (frsC l).drop (k * 4) = frsC (l.drop k) := by
  by_cases hk : k ≤ l.length
  · have h := frsC_app (l.take k) (l.drop k)
    rw [List.take_append_drop] at h
    have hl : (frsC (l.take k)).length = k * 4 := by rw [frsC_len, List.length_take]; omega
    rw [h, ← hl, List.drop_left]
  · rw [List.drop_eq_nil_of_le (by rw [frsC_len]; omega), List.drop_eq_nil_of_le (by omega)]; rfl
/-- A network in its box: its row is one of the calls' own. -/
structure NetX (base b : Nat) (fs : List Fr) (A : Option Addr) (cap : Nat) (w : World) : Prop where
  box : w.heap[b]? = some (.cells #[.slice A fs.length cap] 26 (0, 0))
  row : w.ownsRow base 35 4 (.slice A fs.length cap) fs.length (frsC fs)
  bb : base ≤ b
def NetAt (base b : Nat) (fs : List Fr) (w : World) : Prop := ∃ A cap, NetX base b fs A cap w
/-- All as it was, but for the network's box and its row. -/
structure NSep (base b : Nat) (w w' : World) : Prop where
  os : w'.os = w.os
  tape : w'.tape = w.tape
  output : w'.output = w.output
  size : w.heap.size ≤ w'.heap.size
  low : ∀ k, k < base → w'.heap[k]? = w.heap[k]?
  block : ∀ (T : TypeId) (k : Nat) (cs : Array Value) (fr : Nat × Nat), T ≠ 35 → k ≠ b → w.heap[k]? = some (.cells cs T fr) → w'.heap[k]? = some (.cells cs T fr)
section
variable {base b : Nat} {fs : List Fr} {A : Option Addr} {cap : Nat} {w w' w'' : World}
theorem NSep.refl (base b : Nat) (w : World) : NSep base b w w := ⟨rfl, rfl, rfl, Nat.le_refl _, fun _ _ => rfl, fun _ _ _ _ _ _ h => h⟩
theorem NSep.trans (h : NSep base b w w') (k : NSep base b w' w'') : NSep base b w w'' :=
  ⟨k.os.trans h.os, k.tape.trans h.tape, k.output.trans h.output, Nat.le_trans h.size k.size, fun i hi => (k.low i hi).trans (h.low i hi), fun T i cs fr hT hi hh => k.block T i cs fr hT hi (h.block T i cs fr hT hi hh)⟩
theorem NSep.of_below (h : Below w.heap.size w w') (hb : base ≤ w.heap.size) : NSep base b w w' :=
  ⟨h.os, h.tape, h.output, h.size, fun k hk => h.block k (by omega), fun T k cs fr _ _ hh => (h.block k (Gn.heap_lt hh)).trans hh⟩
theorem NSep.below (h : NSep base b w w') : Below base w w' := ⟨h.os, h.tape, h.output, h.size, h.low⟩
theorem NSep.setBox (h : NSep base b w w') (hb : base ≤ b) (i : Nat) (u : Value) : NSep base b w (w'.setCell ⟨b, i, none⟩ u) :=
  h.trans ⟨rfl, rfl, rfl, by simp [World.setCell], fun k hk => Below.heap_setCell _ _ _ _ (by simp only; omega), fun T k cs fr _ hk hh => (Below.heap_setCell _ _ _ _ (by simpa using hk)).trans hh⟩
theorem NSep.grown (h : NSep base b w w') {v : Value} {n : Nat} {xs : List Value} (hg : w'.grownBy w'' v.ownBlock) (hown : w'.ownsRow base 35 4 v n xs) (hb : base ≤ w'.heap.size) : NSep base b w w'' := by
  obtain ⟨g1, g2, g3, g4, g5⟩ := hg
  refine h.trans ⟨g1, g2, g3, g4, fun k hk => g5 k (by omega) (fun e => by have := Gn.own_block hown k e.symm; omega), fun T k cs fr hT _ hh => ?_⟩
  refine (g5 k (Gn.heap_lt hh) (fun e => ?_)).trans hh
  rcases hown.2 with ⟨h1, _⟩ | ⟨g', cp, cur, h1, _, h3, _⟩
  · rw [h1] at e; simp [Value.ownBlock] at e
  · rw [h1] at e
    simp [Value.ownBlock] at e
    subst e
    rw [h3] at hh
    injection hh with hh
    injection hh with _ h2
    exact hT h2.symm
theorem NetX.at_ (h : NetX base b fs A cap w) : NetAt base b fs w := ⟨A, cap, h⟩
theorem own_below {v : Value} {e : TypeId} {size n : Nat} {xs : List Value} (h : w.ownsRow base e size v n xs) (hb : Below w.heap.size w w') : w'.ownsRow base e size v n xs := by
  refine ⟨h.1, ?_⟩
  rcases h.2 with h2 | ⟨g', cap, cur, h1, h2, hh, hrest⟩
  · exact .inl h2
  · exact .inr ⟨g', cap, cur, h1, h2, (hb.block _ (Gn.heap_lt hh)).trans hh, hrest⟩
theorem NetX.below (h : NetX base b fs A cap w) (hb : Below w.heap.size w w') : NetX base b fs A cap w' :=
  ⟨(hb.block _ (Gn.heap_lt h.box)).trans h.box, own_below h.row hb, h.bb⟩
theorem NetAt.below (h : NetAt base b fs w) (hb : Below w.heap.size w w') : NetAt base b fs w' := by
  obtain ⟨A, cap, h⟩ := h
  exact ⟨A, cap, h.below hb⟩
theorem NetAt.lt (h : NetAt base b fs w) : b < w.heap.size ∧ base ≤ b := by
  obtain ⟨A, cap, h⟩ := h
  exact ⟨Gn.heap_lt h.box, h.bb⟩
end
/-- A whole number and nothing turned. -/
def IsN (n : Int) (w : World) (e : Ending) (w' : World) : Prop := e = .returned (.int .i64 n) ∧ w = w'
theorem is_nil (w : World) : (binOp .eql 44 (.pointer none) (.pointer none)).run Try.prog w = .ok (.bool true) w := run_eql_pointer_nil w _ _ (by kernel_rfl)
theorem isnt_nil (w : World) (a : Addr) : (binOp .eql 44 (.pointer (some a)) (.pointer none)).run Try.prog w = .ok (.bool false) w := run_eql_pointer_nil w _ _ (by kernel_rfl)
theorem count_any {base b : Nat} {fs : List Fr} {A : Option Addr} {cap : Nat} {w : World} (h : NetX base b fs A cap w) :
    Calls Try.prog 13 #[.pointer (some ⟨b, 0, none⟩)] w (IsN fs.length w) := by
  have hc := cell_of_row _ _ 0 _ _ (0, 0) h.box
  obtain ⟨n, hn⟩ : ∃ n, n = fs.length := ⟨_, rfl⟩
  rw [← hn] at hc ⊢
  have hnil := isnt_nil w ⟨b, 0, none⟩
  clear h hn
  go_enter Try.func13, Try.ntmps13
  go_wp2
  go_ret
  exact ⟨rfl, rfl⟩
theorem count_nil (w : World) : Calls Try.prog 13 #[.pointer none] w (IsN 0 w) := by
  have hnil := is_nil w
  go_enter Try.func13, Try.ntmps13
  go_wp2
  go_ret
  exact ⟨rfl, rfl⟩
/-- The place that a number tells, counting round. -/
def plN (i : Int) (n : Nat) : Nat := (if i.tmod n < 0 then i.tmod n + n else i.tmod n).toNat
theorem tmod_range (i : Int) {n : Nat} (h : 0 < n) : -(n : Int) < i.tmod n ∧ i.tmod n < n := by
  refine ⟨?_, Int.tmod_lt_of_pos i (by omega)⟩
  have h1 := Int.natAbs_tmod i n
  have h7 := Nat.mod_lt i.natAbs h
  rw [Int.natAbs_natCast] at h1
  omega
theorem plN_of (i : Int) {n : Nat} (h : 0 < n) : (if i.tmod n < 0 then i.tmod n + n else i.tmod n) = (plN i n : Int) := by
  have h1 := tmod_range i h
  unfold plN
  split <;> omega
theorem plN_lt (i : Int) {n : Nat} (h : 0 < n) : plN i n < n := by
  have h1 := tmod_range i h
  unfold plN
  split <;> omega
theorem rem_any (i : Int) (n : Nat) (hn : 0 < n) (hn2 : n ≤ 4611686018427387904) (w : World) : Calls Try.prog 18 #[.int .i64 i, .int .i64 n] w (IsN (plN i n) w) := by
  obtain ⟨q, hq⟩ : ∃ q, i.tmod n = q := ⟨_, rfl⟩
  have h1 := plN_of i hn
  have h2 := tmod_range i hn
  rw [hq] at h1 h2
  obtain ⟨p, hp⟩ : ∃ p, p = plN i n := ⟨_, rfl⟩
  rw [← hp] at h1 ⊢
  obtain ⟨h2, h3⟩ := h2
  have hn0 : ¬ (n : Int) = 0 := by omega
  have HP := Lib.hid hp
  clear hp
  by_cases h0 : q < 0
  · rw [if_pos h0] at h1
    have hd : decide (q < 0) = true := by simpa using h0
    go_enter Try.func18, Try.ntmps18
    go_wp2
    go_ret
    exact ⟨by rw [← h1]; rfl, rfl⟩
  · rw [if_neg h0] at h1
    go_enter Try.func18, Try.ntmps18
    go_wp2
    go_ret
    exact ⟨by rw [← h1]; rfl, rfl⟩
/-- What place tells: the place, and whether there is one. -/
def plV (i : Int) (n : Nat) : Value := .tuple #[.int .i64 (if n = 0 then 0 else (plN i n : Int)), .bool (decide (0 < n))]
theorem place_any {base b : Nat} {fs : List Fr} {A : Option Addr} {cap : Nat} {w : World} (h : NetX base b fs A cap w) (i : Int) (hn : fs.length ≤ 1024) :
    Calls Try.prog 15 #[.pointer (some ⟨b, 0, none⟩), .int .i64 i] w (fun e w' => e = .returned (plV i fs.length) ∧ w = w') := by
  have HC := Lib.hid (count_any h)
  obtain ⟨n, hnn⟩ : ∃ n, n = fs.length := ⟨_, rfl⟩
  rw [← hnn] at HC hn ⊢
  clear h hnn
  by_cases h0 : n = 0
  · subst h0
    go_enter Try.func15, Try.ntmps15
    go_wp2_with fail
    refine HC.out.mono ?_
    rintro e w' ⟨rfl, rfl⟩
    go_wp2_with fail
    go_ret2
    exact ⟨rfl, rfl⟩
  · have HR := Lib.hid (rem_any i n (by omega) (by omega) w)
    have hn0 : ((n : Int) == 0) = false := by simpa using h0
    have HE := Lib.hid (show plV i n = .tuple #[.int .i64 (plN i n), .bool true] by unfold plV; rw [if_neg h0, decide_eq_true (by omega)])
    obtain ⟨p, hp⟩ : ∃ p, p = plN i n := ⟨_, rfl⟩
    rw [← hp] at HR HE
    clear hp
    go_enter Try.func15, Try.ntmps15
    go_wp2_with fail
    refine HC.out.mono ?_
    rintro e w' ⟨rfl, rfl⟩
    go_wp2_with fail
    refine HC.out.mono ?_
    rintro e w' ⟨rfl, rfl⟩
    go_wp2_with fail
    refine HR.out.mono ?_
    rintro e w' ⟨rfl, rfl⟩
    go_wp2_with fail
    go_ret2
    exact ⟨by rw [HE.out]; rfl, rfl⟩
theorem place_none (p : Value) (w : World) (hc : Calls Try.prog 13 #[p] w (IsN 0 w)) (i : Int) :
    Calls Try.prog 15 #[p, .int .i64 i] w (fun e w' => e = .returned (plV i 0) ∧ w = w') := by
  have HC := Lib.hid hc
  clear hc
  go_enter Try.func15, Try.ntmps15
  go_wp2_with fail
  refine HC.out.mono ?_
  rintro e w' ⟨rfl, rfl⟩
  go_wp2_with fail
  go_ret2
  exact ⟨rfl, rfl⟩
end Go.Proofs.Ytdkigbaodbkebaa.Nt
