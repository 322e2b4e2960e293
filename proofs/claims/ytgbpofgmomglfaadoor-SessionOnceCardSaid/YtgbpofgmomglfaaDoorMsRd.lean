/-
  Layer 23: the reader, over the bytes of a message that is good.
-/
import Derived.Test.YtgbpofgmomglfaaDoorMsWr
import Derived.Test.YtgbpofgmomglfaaDoorMIn2
namespace Go.Proofs.YtgbpofgmomglfaaDoor.Ms
open Oct (pb bs rng rInt rText rBool At Sep Gives eText eLen eInt app)
open Gn (Asks)
open Go.RowKit
set_option maxRecDepth 100000
set_option linter.unusedSimpArgs false
set_option linter.unusedVariables false

theorem rInt_of (n : Int) (R : List UInt8) (h : ¬ rng n) : rInt (.ok (pb n ++ R)) = (n, .ok R) := by
  have hg := Oct.gb_pb n R h
  simp only [rInt, hg]
  rw [if_pos trivial, List.drop_left]
theorem rBool_of (b : Bool) (R : List UInt8) : rBool (.ok ((if b then 1 else 0) :: R)) = (b, .ok R) := by
  cases b <;> rfl
theorem rLen_of (n : Nat) (m : Int) (R : List UInt8) (hn : n ≤ 65536) (hm : (n : Int) ≤ m) : Oct.rLen m (.ok (pb n ++ R)) = ((n : Int), .ok R) := by
  have hr : ¬ rng (n : Int) := by unfold rng; omega
  rw [Oct.rLen, rInt_of _ R hr]
  show (if (n : Int) < 0 then _ else if m < (n : Int) then _ else _) = _
  rw [if_neg (by omega), if_neg (by omega)]
/-- A text's bytes. -/
def qT (t : ByteArray) : List UInt8 := pb t.size ++ bs t
theorem rText_of (t : ByteArray) (R : List UInt8) (h : t.size ≤ 65536) : rText (.ok (qT t ++ R)) = (bs t, .ok R) := by
  have hl : (bs t).length = t.size := rfl
  unfold qT
  rw [rText, List.append_assoc, rLen_of t.size 65536 (bs t ++ R) h (by omega)]
  show (if ((bs t ++ R).length : Int) < (t.size : Int) then _ else _) = _
  rw [if_neg (by rw [List.length_append, hl]; omega), Int.toNat_natCast, ← hl, List.take_left, List.drop_left]
def setNum (m : Msg) (j : Nat) (x : Int) : Msg :=
  match j with
  | 1 => { m with frm := x } | 2 => { m with born := x } | 4 => { m with view := x } | 5 => { m with last := x } | 6 => { m with op := x } | 7 => { m with commit := x }
  | 8 => { m with client := x } | 9 => { m with number := x } | 10 => { m with nonce := x } | 13 => { m with base := x } | _ => m
theorem setNum_cells (m : Msg) (j : Nat) (x : Int) (hj : isNum j = true) (a : Option Addr) (cap : Nat) (b : Option Addr) (cap2 : Nat) : (cellsM m a cap b cap2).setIfInBounds j (.int .i64 x) = cellsM (setNum m j x) a cap b cap2 ∧ (setNum m j x).known = m.known ∧ (setNum m j x).ents = m.ents := by
  unfold isNum at hj
  simp only [List.contains_cons, List.contains_nil, Bool.or_false, Bool.or_eq_true, beq_iff_eq] at hj
  rcases hj with rfl | rfl | rfl | rfl | rfl | rfl | rfl | rfl | rfl | rfl <;> exact ⟨by simp [cellsM, setNum], rfl, rfl⟩
def entC (x : Ent) : List Value := [.int .i64 x.client, .int .i64 x.number, .string x.text]
def entCells (l : List Ent) : List Value := (l.map entC).flatten
theorem setNum_kind (m : Msg) (j : Nat) (x : Int) : (setNum m j x).kind = m.kind := by
  unfold setNum
  split <;> rfl
structure RdS where
  msg : Msg
  rest : List UInt8
/-- Where the message that is read, the reader and its bytes lie; and the message that is to be read. -/
structure RdC where
  W0 : World
  mb : Nat
  rb : Nat
  ib : Nat
  r : Int
  m : Msg
structure RdFix (C : RdC) : Prop where
  mb0 : C.W0.heap.size ≤ C.mb
  rb0 : C.W0.heap.size ≤ C.rb
  ib0 : C.W0.heap.size ≤ C.ib
  mr : C.mb ≠ C.rb
  mi : C.mb ≠ C.ib
  ri : C.rb ≠ C.ib
structure RdR (C : RdC) (s : RdS) (w : World) : Prop where
  msg : ∃ A cap B cap2, w.heap[C.mb]? = some (.cells (cellsM s.msg A cap B cap2) 53 (0, 0)) ∧ w.ownsRow C.W0.heap.size 3 1 (.slice A s.msg.known.length cap) s.msg.known.length (s.msg.known.map (Value.int .i64)) ∧ w.ownsRow C.W0.heap.size 100 3 (.slice B s.msg.ents.length cap2) s.msg.ents.length (entCells s.msg.ents)
  ins : At 138 w C.ib (.ok s.rest)
  rd : w.heap[C.rb]? = some (.cells #[.pointer (some ⟨C.ib, 0, none⟩), .int .i64 C.r, .bool false] 123 (0, 0))
  bel : Below C.W0.heap.size C.W0 w
  kind : s.msg.kind = C.m.kind
theorem own_same {w w' : World} {base : Nat} {e : TypeId} {k : Nat} {v : Value} {n : Nat} {xs : List Value} (h : w.ownsRow base e k v n xs) (hs : ∀ (r : Nat) (cs : Array Value) (fr : Nat × Nat), w.heap[r]? = some (Obj.cells cs e fr) → w'.heap[r]? = w.heap[r]?) : w'.ownsRow base e k v n xs := by
  refine ⟨h.1, ?_⟩
  rcases h.2 with h2 | ⟨r, cp, cur, hv, hbr, hhr, hrest⟩
  · exact .inl h2
  · exact .inr ⟨r, cp, cur, hv, hbr, (hs r _ _ hhr).trans hhr, hrest⟩
theorem RdR.below {C : RdC} {s : RdS} {w w' : World} (h : RdR C s w) (b : Below w.heap.size w w') : RdR C s w' := by
  obtain ⟨A, cap, B, cap2, h1, h2, h3⟩ := h.msg
  exact ⟨⟨A, cap, B, cap2, (b.block _ (Gn.heap_lt h1)).trans h1, own_same h2 fun r cs fr hr => b.block _ (Gn.heap_lt hr), own_same h3 fun r cs fr hr => b.block _ (Gn.heap_lt hr)⟩, h.ins.below b, (b.block _ (Gn.heap_lt h.rd)).trans h.rd, h.bel.trans (b.mono h.bel.size), h.kind⟩
theorem RdR.sep {C : RdC} (hf : RdFix C) {s : RdS} {w w' : World} {l : List UInt8} (h : RdR C s w) (ha : At 138 w' C.ib (.ok l)) (hs : Sep C.ib w.heap.size w w') : RdR C ⟨s.msg, l⟩ w' := by
  obtain ⟨A, cap, B, cap2, h1, h2, h3⟩ := h.msg
  obtain ⟨t, x, hc⟩ := h.ins.cells
  have key : ∀ (e : TypeId), e ≠ 138 → ∀ (r : Nat) (cs : Array Value) (fr : Nat × Nat), w.heap[r]? = some (Obj.cells cs e fr) → w'.heap[r]? = w.heap[r]? := fun e he r cs fr hr => hs.block _ (Gn.heap_lt hr) (fun hh => by
    rw [hh, hc] at hr
    injection hr with hr
    injection hr with _ h2
    exact he h2.symm)
  exact ⟨⟨A, cap, B, cap2, (hs.block _ (Gn.heap_lt h1) hf.mi).trans h1, own_same h2 (key _ (by decide)), own_same h3 (key _ (by decide))⟩, ha, (hs.block _ (Gn.heap_lt h.rd) hf.ri).trans h.rd, h.bel.trans (hs.below hf.ib0 h.bel.size), h.kind⟩
/-- A field that is no row is set. -/
theorem RdR.set {C : RdC} (hf : RdFix C) {s : RdS} {w : World} (h : RdR C s w) (j : Nat) (u : Value) (m2 : Msg) (hm : ∀ A cap B cap2, (cellsM s.msg A cap B cap2).setIfInBounds j u = cellsM m2 A cap B cap2) (hk : m2.known = s.msg.known) (he : m2.ents = s.msg.ents) (hkd : m2.kind = s.msg.kind) : RdR C ⟨m2, s.rest⟩ (w.setCell ⟨C.mb, j, none⟩ u) := by
  obtain ⟨A, cap, B, cap2, h1, h2, h3⟩ := h.msg
  have k : ∀ r, C.mb ≠ r → (w.setCell ⟨C.mb, j, none⟩ u).heap[r]? = w.heap[r]? := fun r hr => Gn.set_keep _ _ _ hr
  have key : ∀ (e : TypeId), e ≠ 53 → ∀ (r : Nat) (cs : Array Value) (fr : Nat × Nat), w.heap[r]? = some (Obj.cells cs e fr) → (w.setCell ⟨C.mb, j, none⟩ u).heap[r]? = w.heap[r]? := fun e he r cs fr hr => k r (fun hh => by
    rw [← hh, h1] at hr
    injection hr with hr
    injection hr with _ h2
    exact he h2.symm)
  refine ⟨⟨A, cap, B, cap2, by rw [← hm]; exact Gn.heap_set h1 j u, ?_, ?_⟩, ?_, (k _ hf.mr).trans h.rd, h.bel.setCell hf.mb0 _, hkd.trans h.kind⟩
  · rw [hk]; exact own_same h2 (key _ (by decide))
  · rw [he]; exact own_same h3 (key _ (by decide))
  · exact h.ins.block (k _ hf.mi)
theorem RdR.frozen {C : RdC} {s : RdS} {w : World} (h : RdR C s w) (j : Nat) : w.frozen? ⟨C.mb, j, none⟩ = false := by
  obtain ⟨A, cap, B, cap2, h1, h2, h3⟩ := h.msg
  exact Gn.frozen_row h1 j
theorem RdR.cell {C : RdC} {s : RdS} {w : World} (h : RdR C s w) (j : Nat) (hj : j < 16) : ∃ u, w.cell? ⟨C.mb, j, none⟩ = some u := by
  obtain ⟨A, cap, B, cap2, h1, h2, h3⟩ := h.msg
  exact ⟨_, (cell_of_row _ _ j _ _ (0, 0) h1).trans (Array.getElem?_eq_getElem hj)⟩
theorem isNum_lt (j : Nat) (hj : isNum j = true) : j < 16 := by
  unfold isNum at hj
  simp only [List.contains_cons, List.contains_nil, Bool.or_false, Bool.or_eq_true, beq_iff_eq] at hj
  omega
def encE (x : Ent) : List UInt8 := pb x.client ++ (pb x.number ++ qT x.text)
/-- The bytes of what is shown. -/
def encA (m : Msg) : Sh → List UInt8
  | .nums js => (js.map fun j => pb (numAt m j)).flatten
  | .known => (m.known.map pb).flatten
  | .text j => qT (txtAt m j)
  | .yes => [if m.full then 1 else 0]
  | .entry => (m.ents.map encE).flatten
  | .entries => pb m.ents.length ++ (m.ents.map encE).flatten
def setTxt (m : Msg) (j : Nat) (t : ByteArray) : Msg := if j = 11 then { m with text := t } else { m with state := t }
/-- What the message that is read has more. -/
def setA (m x : Msg) : Sh → Msg
  | .nums js => js.foldl (fun x j => setNum x j (numAt m j)) x
  | .known => { x with known := m.known }
  | .text j => setTxt x j (txtAt m j)
  | .yes => { x with full := m.full }
  | .entry => { x with ents := m.ents }
  | .entries => { x with ents := m.ents }
def rdNext (m : Msg) (s : RdS) (a : Sh) : RdS := ⟨setA m s.msg a, s.rest.drop (encA m a).length⟩
theorem rd_text (C : RdC) (hC : RdFix C) (x : Msg) (l : List UInt8) (j : Nat) (w : World) (h : RdR C ⟨x, qT (txtAt C.m j) ++ l⟩ w) (hj : j = 11 ∨ j = 14) (hs : (txtAt C.m j).size ≤ 65536) :
    Calls Tryd.prog 103 #[.pointer (some ⟨C.rb, 0, none⟩), .pointer (some ⟨C.mb, j, none⟩)] w (fun e w' => e = .returned (.tuple #[]) ∧ RdR C ⟨setTxt x j (txtAt C.m j), l⟩ w') := by
  obtain ⟨t, ht⟩ : ∃ t, t = txtAt C.m j := ⟨_, rfl⟩
  rw [← ht] at h hs ⊢
  have hT := Oct.text_in_any C.ib _ w h.ins
  rw [rText_of t l hs] at hT
  have x0 := cell_of_row _ _ 0 _ _ (0, 0) h.rd
  have HF := Lib.hid hC
  have HR := Lib.hid h
  have HT := Lib.hid hT
  have HJ := Lib.hid hj
  clear h hC hT ht hs hj
  obtain ⟨rb, hrb⟩ : ∃ x, x = C.rb := ⟨_, rfl⟩
  obtain ⟨ib, hib⟩ : ∃ x, x = C.ib := ⟨_, rfl⟩
  obtain ⟨mb, hmb⟩ : ∃ x, x = C.mb := ⟨_, rfl⟩
  rw [← hrb, ← hib] at x0
  rw [← hrb, ← hmb]
  rw [← hib] at HT
  have HIB := Lib.hid hib
  have HMB := Lib.hid hmb
  clear hrb hib hmb
  go_enter Tryd.func103, Tryd.ntmps103
  go_wp2_with fail
  refine HT.out.mono ?_
  rintro e w2 ⟨rfl, ha, hs⟩
  have HR2 := Lib.hid (RdR.sep HF.out HR.out (by rw [HIB.out] at ha; exact ha) (by rw [HIB.out] at hs; exact hs))
  clear ha hs x0
  have hj16 : j < 16 := by have := HJ.out; omega
  obtain ⟨u, c0⟩ := HR2.out.cell j hj16
  have hfz := HR2.out.frozen j
  rw [← HMB.out] at c0 hfz
  clear hj16
  go_wp2
  go_end0
  refine ⟨rfl, ?_⟩
  rw [HMB.out]
  have htt : (⟨(bs t).toArray⟩ : ByteArray) = t := rfl
  rcases HJ.out with rfl | rfl
  · exact HR2.out.set HF.out 11 _ _ (fun A cap B cap2 => by simp [cellsM, setTxt, htt]) rfl rfl rfl
  · exact HR2.out.set HF.out 14 _ _ (fun A cap B cap2 => by simp [cellsM, setTxt, htt]) rfl rfl rfl
theorem rd_yes (C : RdC) (hC : RdFix C) (x : Msg) (l : List UInt8) (w : World) (h : RdR C ⟨x, (if C.m.full then 1 else 0) :: l⟩ w) :
    Calls Tryd.prog 104 #[.pointer (some ⟨C.rb, 0, none⟩), .pointer (some ⟨C.mb, 12, none⟩)] w (fun e w' => e = .returned (.bool C.m.full) ∧ RdR C ⟨{ x with full := C.m.full }, l⟩ w') := by
  obtain ⟨t, ht⟩ : ∃ t, t = C.m.full := ⟨_, rfl⟩
  rw [← ht] at h ⊢
  have hT := Oct.bool_in_any C.ib _ w h.ins
  rw [rBool_of t l] at hT
  have x0 := cell_of_row _ _ 0 _ _ (0, 0) h.rd
  have HF := Lib.hid hC
  have HR := Lib.hid h
  have HT := Lib.hid hT
  clear h hC hT ht
  obtain ⟨rb, hrb⟩ : ∃ x, x = C.rb := ⟨_, rfl⟩
  obtain ⟨ib, hib⟩ : ∃ x, x = C.ib := ⟨_, rfl⟩
  obtain ⟨mb, hmb⟩ : ∃ x, x = C.mb := ⟨_, rfl⟩
  rw [← hrb, ← hib] at x0
  rw [← hrb, ← hmb]
  rw [← hib] at HT
  have HIB := Lib.hid hib
  have HMB := Lib.hid hmb
  clear hrb hib hmb
  go_enter Tryd.func104, Tryd.ntmps104
  go_wp2_with fail
  refine HT.out.mono ?_
  rintro e w2 ⟨rfl, ha, hs⟩
  have HR2 := Lib.hid (RdR.sep HF.out HR.out (by rw [HIB.out] at ha; exact ha) (by rw [HIB.out] at hs; exact hs))
  clear ha hs x0
  obtain ⟨u, c0⟩ := HR2.out.cell 12 (by decide)
  have hfz := HR2.out.frozen 12
  rw [← HMB.out] at c0 hfz
  go_wp2
  go_ret
  refine ⟨rfl, ?_⟩
  rw [HMB.out]
  exact HR2.out.set HF.out 12 _ _ (fun A cap B cap2 => by simp [cellsM]) rfl rfl rfl
theorem RdR.keep {C : RdC} {s : RdS} {w : World} (h : RdR C s w) {a : Nat} {cs : Array Value} {fr : Nat × Nat} (ha : w.heap[a]? = some (.cells cs 108 fr)) : a < w.heap.size ∧ a ≠ C.mb ∧ a ≠ C.ib := by
  obtain ⟨A, cap, B, cap2, h1, h2, h3⟩ := h.msg
  obtain ⟨t, x, hc⟩ := h.ins.cells
  refine ⟨Gn.heap_lt ha, fun e => ?_, fun e => ?_⟩
  · rw [e, h1] at ha
    injection ha with ha
    injection ha with _ h2
    revert h2; decide
  · rw [e, hc] at ha
    injection ha with ha
    injection ha with _ h2
    revert h2; decide
set_option maxHeartbeats 4000000 in
theorem rd_numbers (C : RdC) (hC : RdFix C) (x : Msg) (l : List UInt8) (w : World) (a : Nat) (js : List Nat) (h : RdR C ⟨x, encA C.m (.nums js) ++ l⟩ w) (hj : ∀ j ∈ js, isNum j = true ∧ ¬ rng (numAt C.m j)) (hl : js.length ≤ 100) (hq : Ptrs C.mb w a js) :
    Calls Tryd.prog 102 #[.pointer (some ⟨C.rb, 0, none⟩), .slice (some ⟨a, 0, none⟩) js.length js.length] w (fun e w' => e = .returned (.tuple #[]) ∧ RdR C ⟨js.foldl (fun x j => setNum x j (numAt C.m j)) x, l⟩ w') := by
  obtain ⟨n, hnn⟩ : ∃ n, n = js.length := ⟨_, rfl⟩
  rw [← hnn]
  have hn : n ≤ 100 := by rw [hnn]; exact hl
  obtain ⟨pcs, pfr, hpo⟩ := hq.2.2
  have HF := Lib.hid hC
  have HR := Lib.hid h
  have HP := Lib.hid hq.2.1
  have HPO := Lib.hid hpo
  have HJ := Lib.hid hj
  have HN := Lib.hid hnn
  clear hq h hC hnn hpo hj hl
  obtain ⟨rb, hrb⟩ : ∃ x, x = C.rb := ⟨_, rfl⟩
  obtain ⟨ib, hib⟩ : ∃ x, x = C.ib := ⟨_, rfl⟩
  obtain ⟨mb, hmb⟩ : ∃ x, x = C.mb := ⟨_, rfl⟩
  have HRB := Lib.hid (fun (s : RdS) (w : World) (h : RdR C s w) => show w.cell? ⟨rb, 0, none⟩ = some (.pointer (some ⟨ib, 0, none⟩)) by rw [hrb, hib]; exact cell_of_row _ _ 0 _ _ (0, 0) h.rd)
  have HIN := Lib.hid (fun (s : RdS) (w : World) (h : RdR C s w) => show At 138 w ib (.ok s.rest) by rw [hib]; exact h.ins)
  rw [← hrb]
  rw [← hmb] at HP
  have HIB := Lib.hid hib
  have HMB := Lib.hid hmb
  clear hrb hib hmb
  go_enter Tryd.func102, Tryd.ntmps102
  go_wp2_with fail
  go_loopw [8] (fun i wr => ∃ k : Nat, i = .int .i64 k ∧ k ≤ n ∧ RdR C ⟨(js.take k).foldl (fun x j => setNum x j (numAt C.m j)) x, ((js.drop k).map fun j => pb (numAt C.m j)).flatten ++ l⟩ wr ∧ wr.heap[a]? = w.heap[a]?) (fun i _ => n - (intOf i).toNat)
  case atStart => exact ⟨0, rfl, Nat.zero_le _, HR.out, rfl⟩
  case round =>
    obtain ⟨k, rfl, hk, hw, hc⟩ := hrel
    have HW := Lib.hid hw
    have HC0 := Lib.hid hc
    clear hw hc
    by_cases hlt : k < n
    · have hlt2 : (k : Int) < (n : Int) := by omega
      have hks : k < js.length := by rw [← HN.out]; exact hlt
      have hjk := HJ.out _ (List.getElem_mem hks)
      have c1 := (Gn.cell_same HC0.out k).trans (HP.out k hks)
      have hft := foldl_take (fun (x : Msg) j => setNum x j (numAt C.m j)) js x k hks
      rw [List.drop_eq_getElem_cons hks] at HW
      obtain ⟨xk, hxk⟩ : ∃ s, s = (js.take k).foldl (fun x j => setNum x j (numAt C.m j)) x := ⟨_, rfl⟩
      rw [← hxk] at HW hft
      obtain ⟨j, hjj⟩ : ∃ j, j = js[k] := ⟨_, rfl⟩
      rw [← hjj] at c1 hjk hft HW
      rw [List.map_cons, List.flatten_cons, List.append_assoc] at HW
      obtain ⟨y, hy⟩ : ∃ x, x = numAt C.m j := ⟨_, rfl⟩
      rw [← hy] at HW hft hjk
      obtain ⟨l2, hl2⟩ : ∃ l2, l2 = ((js.drop (k + 1)).map fun j => pb (numAt C.m j)).flatten ++ l := ⟨_, rfl⟩
      rw [← hl2] at HW
      have hT := Oct.int_in_any ib _ wr (HIN.out _ _ HW.out)
      rw [rInt_of y l2 hjk.2] at hT
      have HT := Lib.hid hT
      have HL2 := Lib.hid hl2
      have HFT := Lib.hid hft
      have HJK := Lib.hid hjk.1
      have x0 := HRB.out _ _ HW.out
      clear hjj hxk hft hy hjk hl2 hT
      go_wp2_with fail
      refine HT.out.mono ?_
      rintro e w2 ⟨rfl, ha, hs⟩
      have HR2 := Lib.hid (RdR.sep HF.out HW.out (by rw [HIB.out] at ha; exact ha) (by rw [HIB.out] at hs; exact hs))
      have hka := HW.out.keep (HC0.out.trans HPO.out)
      have HA2 := Lib.hid ((hs.block a hka.1 (by rw [HIB.out]; exact hka.2.2)).trans HC0.out)
      have HAM := Lib.hid (show mb ≠ a by rw [HMB.out]; exact fun e => hka.2.1 e.symm)
      clear ha hs x0 hka c1
      obtain ⟨u, c0⟩ := HR2.out.cell j (isNum_lt j HJK.out)
      have hfz := HR2.out.frozen j
      rw [← HMB.out] at c0 hfz
      go_wp2
      refine ⟨⟨k + 1, by go_num, by omega, ?_, (Gn.set_keep _ _ _ HAM.out).trans HA2.out⟩, by simp [intOf]; omega⟩
      rw [HFT.out, ← HL2.out]
      have hsc := setNum_cells xk j y HJK.out
      rw [HMB.out]
      exact HR2.out.set HF.out j _ _ (fun A cap B cap2 => (setNum_cells xk j y HJK.out A cap B cap2).1) (setNum_cells xk j y HJK.out none 0 none 0).2.1 (setNum_cells xk j y HJK.out none 0 none 0).2.2 (setNum_kind xk j y)
    · have hke : k = n := by omega
      subst hke
      have HTA := Lib.hid (show js.take k = js by rw [HN.out]; exact List.take_length)
      have HDR := Lib.hid (show js.drop k = [] by rw [HN.out]; exact List.drop_length)
      go_wp2
      go_end0
      refine ⟨rfl, ?_⟩
      have := HW.out
      rw [HTA.out, HDR.out] at this
      exact this
end Go.Proofs.YtgbpofgmomglfaaDoor.Ms
