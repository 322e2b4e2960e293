/-
  Layer 23: the reader: rows of numbers and of entries.
-/
import Derived.Test.YtgbpofgmomglfaaDoorMsRd
namespace Go.Proofs.YtgbpofgmomglfaaDoor.Ms
open Oct (pb bs rng rInt rText rBool At Sep Gives eText eLen eInt app)
open Gn (Asks)
open Go.RowKit
set_option maxRecDepth 100000
set_option linter.unusedSimpArgs false
set_option linter.unusedVariables false

/-- The reader's state with its rows named. -/
structure RdX (C : RdC) (s : RdS) (A : Option Addr) (cap : Nat) (B : Option Addr) (cap2 : Nat) (w : World) : Prop where
  msg : w.heap[C.mb]? = some (.cells (cellsM s.msg A cap B cap2) 53 (0, 0))
  kn : w.ownsRow C.W0.heap.size 3 1 (.slice A s.msg.known.length cap) s.msg.known.length (s.msg.known.map (Value.int .i64))
  es : w.ownsRow C.W0.heap.size 100 3 (.slice B s.msg.ents.length cap2) s.msg.ents.length (entCells s.msg.ents)
  ins : At 138 w C.ib (.ok s.rest)
  rd : w.heap[C.rb]? = some (.cells #[.pointer (some ⟨C.ib, 0, none⟩), .int .i64 C.r, .bool false] 123 (0, 0))
  bel : Below C.W0.heap.size C.W0 w
  kind : s.msg.kind = C.m.kind
theorem RdR.x {C : RdC} {s : RdS} {w : World} (h : RdR C s w) : ∃ A cap B cap2, RdX C s A cap B cap2 w := by
  obtain ⟨A, cap, B, cap2, h1, h2, h3⟩ := h.msg
  exact ⟨A, cap, B, cap2, h1, h2, h3, h.ins, h.rd, h.bel, h.kind⟩
section
variable {C : RdC} {s : RdS} {A : Option Addr} {cap : Nat} {B : Option Addr} {cap2 : Nat} {w w' : World}
theorem RdX.r (h : RdX C s A cap B cap2 w) : RdR C s w := ⟨⟨A, cap, B, cap2, h.msg, h.kn, h.es⟩, h.ins, h.rd, h.bel, h.kind⟩
theorem RdX.below (h : RdX C s A cap B cap2 w) (b : Below w.heap.size w w') : RdX C s A cap B cap2 w' :=
  ⟨(b.block _ (Gn.heap_lt h.msg)).trans h.msg, own_same h.kn fun r cs fr hr => b.block _ (Gn.heap_lt hr), own_same h.es fun r cs fr hr => b.block _ (Gn.heap_lt hr), h.ins.below b, (b.block _ (Gn.heap_lt h.rd)).trans h.rd, h.bel.trans (b.mono h.bel.size), h.kind⟩
theorem RdX.sep (hf : RdFix C) {l : List UInt8} (h : RdX C s A cap B cap2 w) (ha : At 138 w' C.ib (.ok l)) (hs : Sep C.ib w.heap.size w w') : RdX C ⟨s.msg, l⟩ A cap B cap2 w' := by
  obtain ⟨t, x, hc⟩ := h.ins.cells
  have key : ∀ (e : TypeId), e ≠ 138 → ∀ (r : Nat) (cs : Array Value) (fr : Nat × Nat), w.heap[r]? = some (Obj.cells cs e fr) → w'.heap[r]? = w.heap[r]? := fun e he r cs fr hr => hs.block _ (Gn.heap_lt hr) (fun hh => by
    rw [hh, hc] at hr
    injection hr with hr
    injection hr with _ h2
    exact he h2.symm)
  exact ⟨(hs.block _ (Gn.heap_lt h.msg) hf.mi).trans h.msg, own_same h.kn (key _ (by decide)), own_same h.es (key _ (by decide)), ha, (hs.block _ (Gn.heap_lt h.rd) hf.ri).trans h.rd, h.bel.trans (hs.below hf.ib0 h.bel.size), h.kind⟩
/-- What a row that grows leaves as it was. -/
theorem grown_far {e : TypeId} {size : Nat} {v : Value} {n : Nat} {xs : List Value} {base : Nat} (hg : w.grownBy w' v.ownBlock) (hown : w.ownsRow base e size v n xs) (T : TypeId) (hne : e ≠ T) (r : Nat) (cs : Array Value) (fr : Nat × Nat) (hr : w.heap[r]? = some (Obj.cells cs T fr)) : w'.heap[r]? = w.heap[r]? :=
  (Oct.grown_keeps hg hown hr hne).trans hr.symm
theorem grown_bel {e : TypeId} {size : Nat} {v : Value} {n : Nat} {xs : List Value} {W0 : World} (hg : w.grownBy w' v.ownBlock) (hown : w.ownsRow W0.heap.size e size v n xs) (b : Below W0.heap.size W0 w) : Below W0.heap.size W0 w' := by
  have ho := Gn.own_block hown
  obtain ⟨h1, h2, h3, h4, h5⟩ := hg
  refine ⟨h1.trans b.os, h2.trans b.tape, h3.trans b.output, Nat.le_trans b.size h4, fun k hk => ?_⟩
  exact (h5 k (Nat.lt_of_lt_of_le hk b.size) (fun e => by have := ho k e.symm; omega)).trans (b.block k hk)
/-- The row of numbers has grown; it is not yet the message's. -/
structure GrK (C : RdC) (s : RdS) (A : Option Addr) (cap : Nat) (B : Option Addr) (cap2 : Nat) (y : Int) (v : Value) (w : World) : Prop where
  msg : w.heap[C.mb]? = some (.cells (cellsM s.msg A cap B cap2) 53 (0, 0))
  kn : w.ownsRow C.W0.heap.size 3 1 v (s.msg.known.length + 1) (s.msg.known.map (Value.int .i64) ++ [.int .i64 y])
  es : w.ownsRow C.W0.heap.size 100 3 (.slice B s.msg.ents.length cap2) s.msg.ents.length (entCells s.msg.ents)
  ins : At 138 w C.ib (.ok s.rest)
  rd : w.heap[C.rb]? = some (.cells #[.pointer (some ⟨C.ib, 0, none⟩), .int .i64 C.r, .bool false] 123 (0, 0))
  bel : Below C.W0.heap.size C.W0 w
  kind : s.msg.kind = C.m.kind
theorem RdX.growK {y : Int} {v : Value} (h : RdX C s A cap B cap2 w) (hown : w'.ownsRow C.W0.heap.size 3 1 v (s.msg.known.length + 1) (s.msg.known.map (Value.int .i64) ++ [.int .i64 y])) (hg : w.grownBy w' (Value.slice A s.msg.known.length cap).ownBlock) : GrK C s A cap B cap2 y v w' := by
  obtain ⟨t, x, hc⟩ := h.ins.cells
  exact ⟨(grown_far hg h.kn _ (by decide) _ _ _ h.msg).trans h.msg, hown, own_same h.es (grown_far hg h.kn _ (by decide)), h.ins.block (grown_far hg h.kn _ (by decide) _ _ _ hc), (grown_far hg h.kn _ (by decide) _ _ _ h.rd).trans h.rd, grown_bel hg h.kn h.bel, h.kind⟩
theorem GrK.done (hf : RdFix C) {y : Int} {v : Value} (h : GrK C s A cap B cap2 y v w) : RdR C ⟨{ s.msg with known := s.msg.known ++ [y] }, s.rest⟩ (w.setCell ⟨C.mb, 3, none⟩ v) := by
  obtain ⟨A2, c2, rfl⟩ := Gn.slice_of h.kn
  have k : ∀ r, C.mb ≠ r → (w.setCell ⟨C.mb, 3, none⟩ (.slice A2 (s.msg.known.length + 1) c2)).heap[r]? = w.heap[r]? := fun r hr => Gn.set_keep _ _ _ hr
  have key : ∀ (e : TypeId), e ≠ 53 → ∀ (r : Nat) (cs : Array Value) (fr : Nat × Nat), w.heap[r]? = some (Obj.cells cs e fr) → (w.setCell ⟨C.mb, 3, none⟩ (.slice A2 (s.msg.known.length + 1) c2)).heap[r]? = w.heap[r]? := fun e he r cs fr hr => k r (fun hh => by
    rw [← hh, h.msg] at hr
    injection hr with hr
    injection hr with _ h2
    exact he h2.symm)
  refine ⟨⟨A2, c2, B, cap2, ?_, ?_, own_same h.es (key _ (by decide))⟩, h.ins.block (k _ hf.mi), (k _ hf.mr).trans h.rd, h.bel.setCell hf.mb0 _, h.kind⟩
  · have := Gn.heap_set h.msg 3 (.slice A2 (s.msg.known.length + 1) c2)
    rw [this]
    simp [cellsM]
  · have := own_same h.kn (key _ (by decide))
    simpa using this
/-- The row of entries has grown; it is not yet the message's. -/
structure GrE (C : RdC) (s : RdS) (A : Option Addr) (cap : Nat) (B : Option Addr) (cap2 : Nat) (y : Ent) (v : Value) (w : World) : Prop where
  msg : w.heap[C.mb]? = some (.cells (cellsM s.msg A cap B cap2) 53 (0, 0))
  kn : w.ownsRow C.W0.heap.size 3 1 (.slice A s.msg.known.length cap) s.msg.known.length (s.msg.known.map (Value.int .i64))
  es : w.ownsRow C.W0.heap.size 100 3 v (s.msg.ents.length + 1) (entCells s.msg.ents ++ entC y)
  ins : At 138 w C.ib (.ok s.rest)
  rd : w.heap[C.rb]? = some (.cells #[.pointer (some ⟨C.ib, 0, none⟩), .int .i64 C.r, .bool false] 123 (0, 0))
  bel : Below C.W0.heap.size C.W0 w
  kind : s.msg.kind = C.m.kind
theorem RdX.growE {y : Ent} {v : Value} (h : RdX C s A cap B cap2 w) (hown : w'.ownsRow C.W0.heap.size 100 3 v (s.msg.ents.length + 1) (entCells s.msg.ents ++ entC y)) (hg : w.grownBy w' (Value.slice B s.msg.ents.length cap2).ownBlock) : GrE C s A cap B cap2 y v w' := by
  obtain ⟨t, x, hc⟩ := h.ins.cells
  exact ⟨(grown_far hg h.es _ (by decide) _ _ _ h.msg).trans h.msg, own_same h.kn (grown_far hg h.es _ (by decide)), hown, h.ins.block (grown_far hg h.es _ (by decide) _ _ _ hc), (grown_far hg h.es _ (by decide) _ _ _ h.rd).trans h.rd, grown_bel hg h.es h.bel, h.kind⟩
theorem GrE.done (hf : RdFix C) {y : Ent} {v : Value} (h : GrE C s A cap B cap2 y v w) : RdR C ⟨{ s.msg with ents := s.msg.ents ++ [y] }, s.rest⟩ (w.setCell ⟨C.mb, 15, none⟩ v) := by
  obtain ⟨A2, c2, rfl⟩ := Gn.slice_of h.es
  have k : ∀ r, C.mb ≠ r → (w.setCell ⟨C.mb, 15, none⟩ (.slice A2 (s.msg.ents.length + 1) c2)).heap[r]? = w.heap[r]? := fun r hr => Gn.set_keep _ _ _ hr
  have key : ∀ (e : TypeId), e ≠ 53 → ∀ (r : Nat) (cs : Array Value) (fr : Nat × Nat), w.heap[r]? = some (Obj.cells cs e fr) → (w.setCell ⟨C.mb, 15, none⟩ (.slice A2 (s.msg.ents.length + 1) c2)).heap[r]? = w.heap[r]? := fun e he r cs fr hr => k r (fun hh => by
    rw [← hh, h.msg] at hr
    injection hr with hr
    injection hr with _ h2
    exact he h2.symm)
  refine ⟨⟨A, cap, A2, c2, ?_, own_same h.kn (key _ (by decide)), ?_⟩, h.ins.block (k _ hf.mi), (k _ hf.mr).trans h.rd, h.bel.setCell hf.mb0 _, h.kind⟩
  · have := Gn.heap_set h.msg 15 (.slice A2 (s.msg.ents.length + 1) c2)
    rw [this]
    simp [cellsM]
  · have := own_same h.es (key _ (by decide))
    simpa [entCells] using this
end
/-- Append of one item of so many cells, as a step of a region that draws. -/
theorem step_append {ops : Array Oper} {o : Oper} {a : Act} {K : Act → World → Prop} {Q : Exit → Act → World → Prop} {E : Prop} (w : World) (hgd : o.guard = none) (s x : Operand) (T E' : TypeId) (size : Nat) (hs0 : 0 < size)
    (ho : o.op = .call { callee := .builtin .append, args := #[s, x], argTypes := #[T, T] }) (i : TypeInfo) (z : Value) (bytes : Nat) (hT : Tryd.prog.underlying T = some (.slice E')) (hi : Tryd.prog.info? E' = some i) (hz : i.zero = some z) (hsize : i.size = size) (hby : i.bytes = bytes) (hzs : z.cells.size = size)
    (base : Nat) (v : Value) (n : Nat) (xs : List Value) (hs : a.eval s = v) (hown : w.ownsRow base E' size v n xs) (ad : Addr) (c : Nat) (hx : a.eval x = .slice (some ad) 1 c) (news : List Value) (hl : news.length = size) (hnews : ∀ j u, news[j]? = some u → w.cell? (ad.add j) = some u) (h1 : ∀ u ∈ news, u.oneCell' = true) (h63 : n + 1 ≤ maxLen) (hbytes : (n + 1) * bytes ≤ 140737488355328) (hb : base ≤ w.heap.size)
    (h : ∀ v' w', w'.ownsRow base E' size v' (n + 1) (xs ++ news) → w.grownBy w' v.ownBlock → K (a.put o.dst v') w') :
    if Region.wanted o (yielded ops a.tmps) = true then Oper.wp Tryd.prog o a w K Q else E := by
  have hw : Region.wanted o (yielded ops a.tmps) = true := by simp [Region.wanted, hgd]
  rw [if_pos hw]
  obtain ⟨v', w', hr, h2, h3, _⟩ := run_append_own (P := Tryd.prog) w base T o.type E' i z size bytes hT hi hz hsize hby hzs hs0 v n xs hown ad 1 c news (by rw [hl, Nat.one_mul]) hnews h1 h63 hbytes hb
  unfold Oper.wp execOp
  simp only [ho, resolve, invoke, builtin, Sem.run_bind, Sem.run_pure, Result.andThen_ok, List.map_toArray, List.map_cons, List.map_nil, hs, hx, hr]
  exact h v' w' h2 h3
theorem info_split {i : Option TypeInfo} {z : Value} {k b : Nat} (h : i.map (fun i => (i.zero, i.size, i.bytes)) = some (some z, k, b)) : ∃ j, i = some j ∧ j.zero = some z ∧ j.size = k ∧ j.bytes = b := by
  cases i with
  | none => cases h
  | some j =>
    injection h with h
    injection h with h1 h2
    injection h2 with h2 h3
    exact ⟨j, rfl, h1, h2, h3⟩
theorem int_info : (Tryd.prog.info? 3).map (fun i => (i.zero, i.size, i.bytes)) = some (some (.int .i64 0), 1, 8) := by kernel_rfl
theorem ent_info : (Tryd.prog.info? 100).map (fun i => (i.zero, i.size, i.bytes)) = some (some (.agg #[.int .i64 0, .int .i64 0, .string ⟨#[]⟩]), 3, 32) := by kernel_rfl
/-- A call of a function of one argument. -/
theorem step_call1 {ops : Array Oper} {o : Oper} {a : Act} {K : Act → World → Prop} {Q : Exit → Act → World → Prop} {E : Prop} (w : World) (hgd : o.guard = none) (f : FuncId) (x : Operand) (ts : Array TypeId)
    (ho : o.op = .call { callee := .value (.func f), args := #[x], argTypes := ts }) (u : Value) (hx : a.eval x = u)
    (he : ∀ args w, (callFunc f args).run Tryd.prog w = .ok (.enter f args) w)
    (h : Calls Tryd.prog f #[u] w fun e w' => ∃ v, e = .returned v ∧ K (a.put o.dst v) w') :
    if Region.wanted o (yielded ops a.tmps) = true then Oper.wp Tryd.prog o a w K Q else E := by
  have hw : Region.wanted o (yielded ops a.tmps) = true := by simp [Region.wanted, hgd]
  rw [if_pos hw]
  unfold Oper.wp execOp
  rw [ho]
  have hr : ((resolve a.eval { callee := .value (.func f), args := #[x], argTypes := ts } o.type).run Tryd.prog w) = .ok { target := .fn (.func f) #[], args := #[u] } w := by
    simp only [resolve, List.map_toArray, List.map_cons, List.map_nil, hx]
    rfl
  simp only [Sem.run_bind, hr, Result.andThen_ok, invoke]
  rw [he]
  show Calls _ _ _ _ _
  have e : (#[u] ++ #[] : Array Value) = #[u] := rfl
  rw [e]
  refine Calls.mono h fun e w' hh => ?_
  obtain ⟨v, rfl, hk⟩ := hh
  exact hk
theorem one_new (w : World) (y : Value) {b0 : Nat} (h : w.cell? ⟨b0, 0, none⟩ = some y) : ∀ (j : Nat) (u : Value), [y][j]? = some u → w.cell? ((⟨b0, 0, none⟩ : Addr).add j) = some u := by
  intro j u hu
  match j with
  | 0 => injection hu with hu; rw [← hu, ← h]; rfl
  | j + 1 => cases hu
set_option maxHeartbeats 8000000 in
theorem rd_known (C : RdC) (hC : RdFix C) (x : Msg) (l : List UInt8) (w : World) (h : RdR C ⟨x, encA C.m .known ++ l⟩ w) (hx0 : x.known = []) (hr : C.r = (C.m.known.length : Int)) (hn : C.m.known.length ≤ 1000) (hj : ∀ n ∈ C.m.known, ¬ rng n) :
    Calls Tryd.prog 101 #[.pointer (some ⟨C.rb, 0, none⟩), .pointer (some ⟨C.mb, 3, none⟩)] w (fun e w' => e = .returned (.tuple #[]) ∧ RdR C ⟨{ x with known := C.m.known }, l⟩ w') := by
  obtain ⟨i0, hi0, hz0, hz1, hz2⟩ := info_split int_info
  obtain ⟨ks, hks⟩ : ∃ ks, ks = C.m.known := ⟨_, rfl⟩
  have h : RdR C ⟨{ x with known := [] }, (C.m.known.map pb).flatten ++ l⟩ w := by rw [← hx0]; exact h
  rw [← hks] at h hr hn hj ⊢
  obtain ⟨n, hnn⟩ : ∃ n, n = ks.length := ⟨_, rfl⟩
  rw [← hnn] at hr hn
  have HF := Lib.hid hC
  have HR := Lib.hid h
  have HJ := Lib.hid hj
  have HN := Lib.hid hnn
  have r1 : w.cell? ⟨C.rb, 1, none⟩ = some (.int .i64 n) := by rw [← hr]; exact cell_of_row _ _ 1 _ _ (0, 0) h.rd
  clear h hC hnn hj hks hr hx0
  obtain ⟨rb, hrb⟩ : ∃ x, x = C.rb := ⟨_, rfl⟩
  obtain ⟨ib, hib⟩ : ∃ x, x = C.ib := ⟨_, rfl⟩
  obtain ⟨mb, hmb⟩ : ∃ x, x = C.mb := ⟨_, rfl⟩
  rw [← hrb] at r1
  rw [← hrb, ← hmb]
  have HIB := Lib.hid hib
  have HMB := Lib.hid hmb
  have HRBE := Lib.hid hrb
  clear hrb hib hmb
  go_enter Tryd.func101, Tryd.ntmps101
  go_wp2_with fail
  go_loopw [8] (fun i wr => ∃ k : Nat, i = .int .i64 k ∧ k ≤ n ∧ RdR C ⟨{ x with known := ks.take k }, ((ks.drop k).map pb).flatten ++ l⟩ wr) (fun i _ => n - (intOf i).toNat)
  case atStart => exact ⟨0, rfl, Nat.zero_le _, HR.out⟩
  case round =>
    obtain ⟨k, rfl, hk, hw⟩ := hrel
    by_cases hlt : k < n
    · have hlt2 : (k : Int) < (n : Int) := by omega
      have hks : k < ks.length := by rw [← HN.out]; exact hlt
      have hjk := HJ.out _ (List.getElem_mem hks)
      have hft : ({ x with known := ks.take (k + 1) } : Msg) = { ({ x with known := ks.take k } : Msg) with known := ks.take k ++ [ks[k]] } := by rw [List.take_succ_eq_append_getElem hks]
      rw [List.drop_eq_getElem_cons hks, List.map_cons, List.flatten_cons, List.append_assoc] at hw
      obtain ⟨y, hy⟩ : ∃ x, x = ks[k] := ⟨_, rfl⟩
      rw [← hy] at hw hft hjk
      obtain ⟨l2, hl2⟩ : ∃ l2, l2 = ((ks.drop (k + 1)).map pb).flatten ++ l := ⟨_, rfl⟩
      rw [← hl2] at hw
      obtain ⟨xk, hxk⟩ : ∃ s, s = ({ x with known := ks.take k } : Msg) := ⟨_, rfl⟩
      have hxl : xk.known.length = k := by rw [hxk]; show (ks.take k).length = k; rw [List.length_take]; omega
      have hft2 : ({ x with known := ks.take (k + 1) } : Msg) = { xk with known := xk.known ++ [y] } := by rw [hft, hxk]
      rw [← hxk] at hw
      obtain ⟨A, cap, B, cap2, hx⟩ := hw.x
      have HT := Lib.hid (fun (w : World) (h : RdX C ⟨xk, pb y ++ l2⟩ A cap B cap2 w) => show Calls Tryd.prog 61 #[.pointer (some ⟨ib, 0, none⟩)] w (fun e w' => e = .returned (.int .i64 y) ∧ At 138 w' ib (.ok l2) ∧ Sep ib w.heap.size w w') by
        have hT := Oct.int_in_any ib _ w (by rw [HIB.out]; exact h.ins)
        rw [rInt_of y l2 hjk] at hT
        exact hT)
      obtain ⟨nk, hnk⟩ : ∃ n, n = xk.known.length := ⟨_, rfl⟩
      have hnk2 : nk ≤ 1000 := by omega
      have HC3 := Lib.hid (fun (l : List UInt8) (w : World) (h : RdX C ⟨xk, l⟩ A cap B cap2 w) => show w.cell? ⟨mb, 3, none⟩ = some (.slice A nk cap) by rw [HMB.out, hnk]; exact cell_of_row _ _ 3 _ _ (0, 0) h.msg)
      have HRB := Lib.hid (fun (l : List UInt8) (w : World) (h : RdX C ⟨xk, l⟩ A cap B cap2 w) => show w.cell? ⟨rb, 0, none⟩ = some (.pointer (some ⟨ib, 0, none⟩)) by rw [HRBE.out, HIB.out]; exact cell_of_row _ _ 0 _ _ (0, 0) h.rd)
      have HRB1 := HRB
      have HX0 := Lib.hid (hx.below (Gn.below_drew (Below.refl _ _)))
      have HNK := Lib.hid hnk
      have HFT := Lib.hid hft2
      have HL2 := Lib.hid hl2
      clear hft hft2 hy hl2 hxk hxl hw hx hnk hjk hlt
      go_upto_region 2 with fail
      refine wp_region_noPanic ?_
      refine wp_region_held_drew (S := (fun w : World => w.cell? ⟨rb, 0, none⟩ = some (.pointer (some ⟨ib, 0, none⟩)))) (by kernel_rfl) ?_ (fun hHeld => ?_)
      · exact (HRB.out _ _ HX0.out)
      conv in Array.replicate _ false => change #[false, false, false, false, false, false, false, false, false, false, false, false, false]
      refine wpAnyH_take (i := 0) (v := ?_) rfl (by kernel_rfl) (by kernel_rfl) (by kernel_rfl) (fun _ _ _ h => h) (Or.inl ⟨by rfl, ?_⟩) (by assumption) ?_
      rotate_left
      · intro w hSw
        try dsimp only at hSw
        go_simp
        try with_reducible rfl
      try simp only [Act.put, List.getElem_toArray, List.getElem_cons_zero, List.getElem_cons_succ, List.setIfInBounds_toArray, List.set_cons_zero, List.set_cons_succ]
      refine wpAnyH_take (i := 1) (v := ?_) rfl (by kernel_rfl) (by kernel_rfl) (by kernel_rfl) (fun _ _ _ h => h) (Or.inl ⟨by rfl, ?_⟩) (by assumption) ?_
      rotate_left
      · intro w hSw
        try dsimp only at hSw
        go_simp
        try with_reducible rfl
      try simp only [Act.put, List.getElem_toArray, List.getElem_cons_zero, List.getElem_cons_succ, List.setIfInBounds_toArray, List.set_cons_zero, List.set_cons_succ]
      refine wpAnyH_take (i := 2) (v := ?_) rfl (by kernel_rfl) (by kernel_rfl) (by kernel_rfl) (fun _ _ _ h => h) (Or.inl ⟨by rfl, ?_⟩) (by assumption) ?_
      rotate_left
      · intro w hSw
        try dsimp only at hSw
        go_simp
        try with_reducible rfl
      try simp only [Act.put, List.getElem_toArray, List.getElem_cons_zero, List.getElem_cons_succ, List.setIfInBounds_toArray, List.set_cons_zero, List.set_cons_succ]
      refine wpAnyH_take (i := 4) (v := ?_) rfl (by kernel_rfl) (by kernel_rfl) (by kernel_rfl) (fun _ _ _ h => h) (Or.inl ⟨by rfl, ?_⟩) (by assumption) ?_
      rotate_left
      · intro w hSw
        try dsimp only at hSw
        go_simp
        try with_reducible rfl
      try simp only [Act.put, List.getElem_toArray, List.getElem_cons_zero, List.getElem_cons_succ, List.setIfInBounds_toArray, List.set_cons_zero, List.set_cons_succ]
      refine wpAnyH_take (i := 5) (v := ?_) rfl (by kernel_rfl) (by kernel_rfl) (by kernel_rfl) (fun _ _ _ h => h) (Or.inl ⟨by rfl, ?_⟩) (by assumption) ?_
      rotate_left
      · intro w hSw
        try dsimp only at hSw
        go_simp
        try with_reducible rfl
      try simp only [Act.put, List.getElem_toArray, List.getElem_cons_zero, List.getElem_cons_succ, List.setIfInBounds_toArray, List.set_cons_zero, List.set_cons_succ]
      refine wpAnyH_take (i := 6) (v := ?_) rfl (by kernel_rfl) (by kernel_rfl) (by kernel_rfl) (fun _ _ _ h => h) (Or.inl ⟨by rfl, ?_⟩) (by assumption) ?_
      rotate_left
      · intro w hSw
        try dsimp only at hSw
        go_simp
        try with_reducible rfl
      try simp only [Act.put, List.getElem_toArray, List.getElem_cons_zero, List.getElem_cons_succ, List.setIfInBounds_toArray, List.set_cons_zero, List.set_cons_succ]
      refine wpAnyH_take (i := 7) (v := ?_) rfl (by kernel_rfl) (by kernel_rfl) (by kernel_rfl) (fun _ _ _ h => h) (Or.inl ⟨by rfl, ?_⟩) (by assumption) ?_
      rotate_left
      · intro w hSw
        try dsimp only at hSw
        go_simp
        try with_reducible rfl
      try simp only [Act.put, List.getElem_toArray, List.getElem_cons_zero, List.getElem_cons_succ, List.setIfInBounds_toArray, List.set_cons_zero, List.set_cons_succ]
      refine wpAnyH_ready (rs := [3, 8]) (by kernel_rfl) (by simp) ?_
      refine AllReadyH.cons rfl (fun K hK => ?_) ?_
      · have c3 := HC3.out _ _ HX0.out
        go_simp
        clear c3
        refine hK.out _ wr.drew (HRB.out _ _ HX0.out) (fun hHeld => ?_)
        clear hK K
        try simp only [Act.put, List.getElem_toArray, List.getElem_cons_zero, List.getElem_cons_succ, List.setIfInBounds_toArray, List.set_cons_zero, List.set_cons_succ]
        refine wpAnyH_ready (rs := [8]) (by kernel_rfl) (by simp) ?_
        refine AllReadyH.cons rfl (fun K hK => ?_) AllReadyH.nil
        refine step_call1 _ (by rfl) 61 (.tmp 17) _ (by rfl) (.pointer (some ⟨ib, 0, none⟩)) (by simp [Act.eval]) (fun args w => by kernel_rfl) ?_
        refine (HT.out _ HX0.out).mono ?_
        rintro e w1 ⟨rfl, ha, hs⟩
        have HX1 := Lib.hid (RdX.sep HF.out HX0.out (by rw [HIB.out] at ha; exact ha) (by rw [HIB.out] at hs; exact hs))
        clear ha hs
        refine ⟨_, rfl, ?_⟩
        refine hK.out _ _ (HRB1.out _ _ HX1.out) (fun hHeld => ?_)
        clear hK K
        try simp only [Act.put, List.getElem_toArray, List.getElem_cons_zero, List.getElem_cons_succ, List.setIfInBounds_toArray, List.set_cons_zero, List.set_cons_succ]
        refine wpAnyH_ready (rs := [9]) (by kernel_rfl) (by simp) ?_
        refine AllReadyH.cons rfl (fun K hK => ?_) AllReadyH.nil
        have HX2 := Lib.hid (HX1.out.below ((Below.refl _ _).alloc (Nat.le_refl _) (.cells #[.int .i64 y] 3)))
        have HNB := Lib.hid (cell_of_row _ _ 0 _ _ (0, 0) (heap_alloc_new w1 (.cells #[.int .i64 y] 3)))
        go_simp
        refine hK.out _ (World.alloc w1 (.cells #[.int .i64 y] 3)) (HRB1.out _ _ HX2.out) (fun hHeld => ?_)
        clear hK K
        try simp only [Act.put, List.getElem_toArray, List.getElem_cons_zero, List.getElem_cons_succ, List.setIfInBounds_toArray, List.set_cons_zero, List.set_cons_succ]
        refine wpAnyH_ready (rs := [10]) (by kernel_rfl) (by simp) ?_
        refine AllReadyH.cons rfl (fun K hK => ?_) AllReadyH.nil
        refine step_append _ (by rfl) (.tmp 13) (.tmp 19) 42 3 1 (by decide) (by rfl) i0 (.int .i64 0) 8 Tryd.underlying42 hi0 hz0 hz1 hz2 (by rfl) C.W0.heap.size (.slice A nk cap) nk _ (by simp [Act.eval]) (by rw [HNK.out]; exact HX2.out.kn) ⟨w1.heap.size, 0, none⟩ 1 (by simp [Act.eval]) [.int .i64 y] rfl (one_new _ _ HNB.out) (by simp [Value.oneCell']) (by unfold maxLen; omega) (by omega) HX2.out.bel.size ?_
        intro v5 w5 ho hg
        obtain ⟨A5, c5, rfl⟩ := Gn.slice_of ho
        rw [HNK.out] at ho hg
        have HG := Lib.hid (RdX.growK HX2.out ho hg)
        clear ho hg
        refine hK.out _ _ (by rw [HRBE.out, HIB.out]; exact cell_of_row _ _ 0 _ _ (0, 0) HG.out.rd) (fun hHeld => ?_)
        clear hK K
        try simp only [Act.put, List.getElem_toArray, List.getElem_cons_zero, List.getElem_cons_succ, List.setIfInBounds_toArray, List.set_cons_zero, List.set_cons_succ]
        refine wpAnyH_take (i := 11) (v := ?_) rfl (by kernel_rfl) (by kernel_rfl) (by kernel_rfl) (fun _ _ _ h => h) (Or.inl ⟨by rfl, ?_⟩) (by assumption) ?_
        rotate_left
        · intro w hSw
          try dsimp only at hSw
          go_simp
          try with_reducible rfl
        try simp only [Act.put, List.getElem_toArray, List.getElem_cons_zero, List.getElem_cons_succ, List.setIfInBounds_toArray, List.set_cons_zero, List.set_cons_succ]
        refine wpAnyH_ready (rs := [12]) (by kernel_rfl) (by simp) ?_
        refine AllReadyH.cons rfl (fun K hK => ?_) AllReadyH.nil
        have c0 : w5.cell? ⟨mb, 3, none⟩ = some (.slice A nk cap) := by rw [HMB.out, HNK.out]; exact cell_of_row _ _ 3 _ _ (0, 0) HG.out.msg
        have hfz : w5.frozen? ⟨mb, 3, none⟩ = false := by rw [HMB.out]; exact Gn.frozen_row HG.out.msg 3
        have HD := Lib.hid (GrK.done HF.out HG.out)
        rw [← HMB.out, ← HNK.out] at HD
        go_simp
        refine hK.out _ (w5.setCell ⟨mb, 3, none⟩ (.slice A5 (nk + 1) c5)) (by rw [HRBE.out, HIB.out]; exact cell_of_row _ _ 0 _ _ (0, 0) HD.out.rd) (fun hHeld => ?_)
        clear hK K
        try simp only [Act.put, List.getElem_toArray, List.getElem_cons_zero, List.getElem_cons_succ, List.setIfInBounds_toArray, List.set_cons_zero, List.set_cons_succ]
        refine wpAnyH_done (by kernel_rfl) ?_ _
        refine NoPanic.normal ?_
        clear c0 hfz
        go_wp2
        refine ⟨⟨k + 1, by go_num, by omega, ?_⟩, by simp [intOf]; omega⟩
        rw [HFT.out, ← HL2.out]
        exact HD.out
      refine AllReadyH.cons rfl (fun K hK => ?_) AllReadyH.nil
      · refine step_call1 _ (by rfl) 61 (.tmp 17) _ (by rfl) (.pointer (some ⟨ib, 0, none⟩)) (by simp [Act.eval]) (fun args w => by kernel_rfl) ?_
        refine (HT.out _ HX0.out).mono ?_
        rintro e w1 ⟨rfl, ha, hs⟩
        have HX1 := Lib.hid (RdX.sep HF.out HX0.out (by rw [HIB.out] at ha; exact ha) (by rw [HIB.out] at hs; exact hs))
        clear ha hs
        refine ⟨_, rfl, ?_⟩
        refine hK.out _ _ (HRB1.out _ _ HX1.out) (fun hHeld => ?_)
        clear hK K
        try simp only [Act.put, List.getElem_toArray, List.getElem_cons_zero, List.getElem_cons_succ, List.setIfInBounds_toArray, List.set_cons_zero, List.set_cons_succ]
        refine wpAnyH_ready (rs := [3, 9]) (by kernel_rfl) (by simp) ?_
        refine AllReadyH.cons rfl (fun K hK => ?_) ?_
        · have c3 := HC3.out _ _ HX1.out
          go_simp
          clear c3
          refine hK.out _ w1 (HRB.out _ _ HX1.out) (fun hHeld => ?_)
          clear hK K
          try simp only [Act.put, List.getElem_toArray, List.getElem_cons_zero, List.getElem_cons_succ, List.setIfInBounds_toArray, List.set_cons_zero, List.set_cons_succ]
          refine wpAnyH_ready (rs := [9]) (by kernel_rfl) (by simp) ?_
          refine AllReadyH.cons rfl (fun K hK => ?_) AllReadyH.nil
          have HX2 := Lib.hid (HX1.out.below ((Below.refl _ _).alloc (Nat.le_refl _) (.cells #[.int .i64 y] 3)))
          have HNB := Lib.hid (cell_of_row _ _ 0 _ _ (0, 0) (heap_alloc_new w1 (.cells #[.int .i64 y] 3)))
          go_simp
          refine hK.out _ (World.alloc w1 (.cells #[.int .i64 y] 3)) (HRB1.out _ _ HX2.out) (fun hHeld => ?_)
          clear hK K
          try simp only [Act.put, List.getElem_toArray, List.getElem_cons_zero, List.getElem_cons_succ, List.setIfInBounds_toArray, List.set_cons_zero, List.set_cons_succ]
          refine wpAnyH_ready (rs := [10]) (by kernel_rfl) (by simp) ?_
          refine AllReadyH.cons rfl (fun K hK => ?_) AllReadyH.nil
          refine step_append _ (by rfl) (.tmp 13) (.tmp 19) 42 3 1 (by decide) (by rfl) i0 (.int .i64 0) 8 Tryd.underlying42 hi0 hz0 hz1 hz2 (by rfl) C.W0.heap.size (.slice A nk cap) nk _ (by simp [Act.eval]) (by rw [HNK.out]; exact HX2.out.kn) ⟨w1.heap.size, 0, none⟩ 1 (by simp [Act.eval]) [.int .i64 y] rfl (one_new _ _ HNB.out) (by simp [Value.oneCell']) (by unfold maxLen; omega) (by omega) HX2.out.bel.size ?_
          intro v5 w5 ho hg
          obtain ⟨A5, c5, rfl⟩ := Gn.slice_of ho
          rw [HNK.out] at ho hg
          have HG := Lib.hid (RdX.growK HX2.out ho hg)
          clear ho hg
          refine hK.out _ _ (by rw [HRBE.out, HIB.out]; exact cell_of_row _ _ 0 _ _ (0, 0) HG.out.rd) (fun hHeld => ?_)
          clear hK K
          try simp only [Act.put, List.getElem_toArray, List.getElem_cons_zero, List.getElem_cons_succ, List.setIfInBounds_toArray, List.set_cons_zero, List.set_cons_succ]
          refine wpAnyH_take (i := 11) (v := ?_) rfl (by kernel_rfl) (by kernel_rfl) (by kernel_rfl) (fun _ _ _ h => h) (Or.inl ⟨by rfl, ?_⟩) (by assumption) ?_
          rotate_left
          · intro w hSw
            try dsimp only at hSw
            go_simp
            try with_reducible rfl
          try simp only [Act.put, List.getElem_toArray, List.getElem_cons_zero, List.getElem_cons_succ, List.setIfInBounds_toArray, List.set_cons_zero, List.set_cons_succ]
          refine wpAnyH_ready (rs := [12]) (by kernel_rfl) (by simp) ?_
          refine AllReadyH.cons rfl (fun K hK => ?_) AllReadyH.nil
          have c0 : w5.cell? ⟨mb, 3, none⟩ = some (.slice A nk cap) := by rw [HMB.out, HNK.out]; exact cell_of_row _ _ 3 _ _ (0, 0) HG.out.msg
          have hfz : w5.frozen? ⟨mb, 3, none⟩ = false := by rw [HMB.out]; exact Gn.frozen_row HG.out.msg 3
          have HD := Lib.hid (GrK.done HF.out HG.out)
          rw [← HMB.out, ← HNK.out] at HD
          go_simp
          refine hK.out _ (w5.setCell ⟨mb, 3, none⟩ (.slice A5 (nk + 1) c5)) (by rw [HRBE.out, HIB.out]; exact cell_of_row _ _ 0 _ _ (0, 0) HD.out.rd) (fun hHeld => ?_)
          clear hK K
          try simp only [Act.put, List.getElem_toArray, List.getElem_cons_zero, List.getElem_cons_succ, List.setIfInBounds_toArray, List.set_cons_zero, List.set_cons_succ]
          refine wpAnyH_done (by kernel_rfl) ?_ _
          refine NoPanic.normal ?_
          clear c0 hfz
          go_wp2
          refine ⟨⟨k + 1, by go_num, by omega, ?_⟩, by simp [intOf]; omega⟩
          rw [HFT.out, ← HL2.out]
          exact HD.out
        refine AllReadyH.cons rfl (fun K hK => ?_) AllReadyH.nil
        · have HX2 := Lib.hid (HX1.out.below ((Below.refl _ _).alloc (Nat.le_refl _) (.cells #[.int .i64 y] 3)))
          have HNB := Lib.hid (cell_of_row _ _ 0 _ _ (0, 0) (heap_alloc_new w1 (.cells #[.int .i64 y] 3)))
          go_simp
          refine hK.out _ (World.alloc w1 (.cells #[.int .i64 y] 3)) (HRB1.out _ _ HX2.out) (fun hHeld => ?_)
          clear hK K
          try simp only [Act.put, List.getElem_toArray, List.getElem_cons_zero, List.getElem_cons_succ, List.setIfInBounds_toArray, List.set_cons_zero, List.set_cons_succ]
          refine wpAnyH_ready (rs := [3]) (by kernel_rfl) (by simp) ?_
          refine AllReadyH.cons rfl (fun K hK => ?_) AllReadyH.nil
          have c3 := HC3.out _ _ HX2.out
          go_simp
          clear c3
          refine hK.out _ (World.alloc w1 (.cells #[.int .i64 y] 3)) (HRB.out _ _ HX2.out) (fun hHeld => ?_)
          clear hK K
          try simp only [Act.put, List.getElem_toArray, List.getElem_cons_zero, List.getElem_cons_succ, List.setIfInBounds_toArray, List.set_cons_zero, List.set_cons_succ]
          refine wpAnyH_ready (rs := [10]) (by kernel_rfl) (by simp) ?_
          refine AllReadyH.cons rfl (fun K hK => ?_) AllReadyH.nil
          refine step_append _ (by rfl) (.tmp 13) (.tmp 19) 42 3 1 (by decide) (by rfl) i0 (.int .i64 0) 8 Tryd.underlying42 hi0 hz0 hz1 hz2 (by rfl) C.W0.heap.size (.slice A nk cap) nk _ (by simp [Act.eval]) (by rw [HNK.out]; exact HX2.out.kn) ⟨w1.heap.size, 0, none⟩ 1 (by simp [Act.eval]) [.int .i64 y] rfl (one_new _ _ HNB.out) (by simp [Value.oneCell']) (by unfold maxLen; omega) (by omega) HX2.out.bel.size ?_
          intro v5 w5 ho hg
          obtain ⟨A5, c5, rfl⟩ := Gn.slice_of ho
          rw [HNK.out] at ho hg
          have HG := Lib.hid (RdX.growK HX2.out ho hg)
          clear ho hg
          refine hK.out _ _ (by rw [HRBE.out, HIB.out]; exact cell_of_row _ _ 0 _ _ (0, 0) HG.out.rd) (fun hHeld => ?_)
          clear hK K
          try simp only [Act.put, List.getElem_toArray, List.getElem_cons_zero, List.getElem_cons_succ, List.setIfInBounds_toArray, List.set_cons_zero, List.set_cons_succ]
          refine wpAnyH_take (i := 11) (v := ?_) rfl (by kernel_rfl) (by kernel_rfl) (by kernel_rfl) (fun _ _ _ h => h) (Or.inl ⟨by rfl, ?_⟩) (by assumption) ?_
          rotate_left
          · intro w hSw
            try dsimp only at hSw
            go_simp
            try with_reducible rfl
          try simp only [Act.put, List.getElem_toArray, List.getElem_cons_zero, List.getElem_cons_succ, List.setIfInBounds_toArray, List.set_cons_zero, List.set_cons_succ]
          refine wpAnyH_ready (rs := [12]) (by kernel_rfl) (by simp) ?_
          refine AllReadyH.cons rfl (fun K hK => ?_) AllReadyH.nil
          have c0 : w5.cell? ⟨mb, 3, none⟩ = some (.slice A nk cap) := by rw [HMB.out, HNK.out]; exact cell_of_row _ _ 3 _ _ (0, 0) HG.out.msg
          have hfz : w5.frozen? ⟨mb, 3, none⟩ = false := by rw [HMB.out]; exact Gn.frozen_row HG.out.msg 3
          have HD := Lib.hid (GrK.done HF.out HG.out)
          rw [← HMB.out, ← HNK.out] at HD
          go_simp
          refine hK.out _ (w5.setCell ⟨mb, 3, none⟩ (.slice A5 (nk + 1) c5)) (by rw [HRBE.out, HIB.out]; exact cell_of_row _ _ 0 _ _ (0, 0) HD.out.rd) (fun hHeld => ?_)
          clear hK K
          try simp only [Act.put, List.getElem_toArray, List.getElem_cons_zero, List.getElem_cons_succ, List.setIfInBounds_toArray, List.set_cons_zero, List.set_cons_succ]
          refine wpAnyH_done (by kernel_rfl) ?_ _
          refine NoPanic.normal ?_
          clear c0 hfz
          go_wp2
          refine ⟨⟨k + 1, by go_num, by omega, ?_⟩, by simp [intOf]; omega⟩
          rw [HFT.out, ← HL2.out]
          exact HD.out
    · have hke : k = n := by omega
      have HW := Lib.hid hw
      clear hw
      subst hke
      have HTA := Lib.hid (show ks.take k = ks by rw [HN.out]; exact List.take_length)
      have HDR := Lib.hid (show ks.drop k = [] by rw [HN.out]; exact List.drop_length)
      go_wp2
      go_end0
      refine ⟨rfl, ?_⟩
      have := HW.out
      rw [HTA.out, HDR.out] at this
      exact this
theorem three_new (w : World) (y : Ent) {b0 : Nat} {T : TypeId} (h : w.heap[b0]? = some (.cells #[.int .i64 y.client, .int .i64 y.number, .string y.text] T (0, 0))) : ∀ (j : Nat) (u : Value), (entC y)[j]? = some u → w.cell? ((⟨b0, 0, none⟩ : Addr).add j) = some u := by
  intro j u hu
  have e : ((⟨b0, 0, none⟩ : Addr).add j) = ⟨b0, j, none⟩ := by unfold Addr.add; split <;> simp_all
  rw [e, cell_of_row _ _ j _ _ (0, 0) h]
  unfold entC at hu
  simpa using hu
set_option maxHeartbeats 8000000 in
theorem rd_entry (C : RdC) (hC : RdFix C) (x : Msg) (l : List UInt8) (w : World) (y : Ent) (h : RdR C ⟨x, encE y ++ l⟩ w) (hn : x.ents.length ≤ 1000) (h0 : ¬ rng y.client) (h1 : ¬ rng y.number) (h2 : y.text.size ≤ 65536) :
    Calls Tryd.prog 100 #[.pointer (some ⟨C.rb, 0, none⟩), .pointer (some ⟨C.mb, 15, none⟩)] w (fun e w' => e = .returned (.tuple #[]) ∧ RdR C ⟨{ x with ents := x.ents ++ [y] }, l⟩ w') := by
  obtain ⟨i0, hi0, hz0, hz1, hz2⟩ := info_split ent_info
  obtain ⟨y0, y1, y2⟩ := y
  dsimp only at h0 h1 h2
  have h : RdR C ⟨x, pb y0 ++ (pb y1 ++ (qT y2 ++ l))⟩ w := by
    have e : encE ⟨y0, y1, y2⟩ ++ l = pb y0 ++ (pb y1 ++ (qT y2 ++ l)) := by unfold encE; simp only [List.append_assoc]
    rw [← e]; exact h
  obtain ⟨A, cap, B, cap2, hx⟩ := h.x
  obtain ⟨rb, hrb⟩ : ∃ x, x = C.rb := ⟨_, rfl⟩
  obtain ⟨ib, hib⟩ : ∃ x, x = C.ib := ⟨_, rfl⟩
  obtain ⟨mb, hmb⟩ : ∃ x, x = C.mb := ⟨_, rfl⟩
  rw [← hrb, ← hmb]
  have HF := Lib.hid hC
  have HIB := Lib.hid hib
  have HMB := Lib.hid hmb
  have HRBE := Lib.hid hrb
  clear hrb hib hmb hC h
  have HT1 := Lib.hid (fun (w : World) (h : RdX C ⟨x, pb y0 ++ (pb y1 ++ (qT y2 ++ l))⟩ A cap B cap2 w) => show Calls Tryd.prog 61 #[.pointer (some ⟨ib, 0, none⟩)] w (fun e w' => e = .returned (.int .i64 y0) ∧ At 138 w' ib (.ok (pb y1 ++ (qT y2 ++ l))) ∧ Sep ib w.heap.size w w') by
    have hT := Oct.int_in_any ib _ w (by rw [HIB.out]; exact h.ins)
    rw [rInt_of y0 _ h0] at hT
    exact hT)
  have HT2 := Lib.hid (fun (w : World) (h : RdX C ⟨x, pb y1 ++ (qT y2 ++ l)⟩ A cap B cap2 w) => show Calls Tryd.prog 61 #[.pointer (some ⟨ib, 0, none⟩)] w (fun e w' => e = .returned (.int .i64 y1) ∧ At 138 w' ib (.ok (qT y2 ++ l)) ∧ Sep ib w.heap.size w w') by
    have hT := Oct.int_in_any ib _ w (by rw [HIB.out]; exact h.ins)
    rw [rInt_of y1 _ h1] at hT
    exact hT)
  have HT3 := Lib.hid (fun (w : World) (h : RdX C ⟨x, qT y2 ++ l⟩ A cap B cap2 w) => show Calls Tryd.prog 105 #[.pointer (some ⟨ib, 0, none⟩)] w (fun e w' => e = .returned (.string y2) ∧ At 138 w' ib (.ok l) ∧ Sep ib w.heap.size w w') by
    have hT := Oct.text_in_any ib _ w (by rw [HIB.out]; exact h.ins)
    rw [rText_of y2 _ h2] at hT
    exact hT)
  obtain ⟨nk, hnk⟩ : ∃ n, n = x.ents.length := ⟨_, rfl⟩
  have hnk2 : nk ≤ 1000 := by omega
  have HC15 := Lib.hid (fun (l : List UInt8) (w : World) (h : RdX C ⟨x, l⟩ A cap B cap2 w) => show w.cell? ⟨mb, 15, none⟩ = some (.slice B nk cap2) by rw [HMB.out, hnk]; exact cell_of_row _ _ 15 _ _ (0, 0) h.msg)
  have HRB := Lib.hid (fun (l : List UInt8) (w : World) (h : RdX C ⟨x, l⟩ A cap B cap2 w) => show w.cell? ⟨rb, 0, none⟩ = some (.pointer (some ⟨ib, 0, none⟩)) by rw [HRBE.out, HIB.out]; exact cell_of_row _ _ 0 _ _ (0, 0) h.rd)
  have HX0 := Lib.hid (hx.below (Gn.below_drew (Below.refl _ _)))
  have HNK := Lib.hid hnk
  clear hx hnk hn h0 h1 h2
  go_enter Tryd.func100, Tryd.ntmps100
  go_upto_region 0 with fail
  refine wp_region_noPanic ?_
  refine wp_region_held_drew (S := (fun w : World => w.cell? ⟨rb, 0, none⟩ = some (.pointer (some ⟨ib, 0, none⟩)))) (by kernel_rfl) ?_ (fun hHeld => ?_)
  · exact (HRB.out _ _ HX0.out)
  conv in Array.replicate _ false => change #[false, false, false, false, false, false, false, false, false, false, false, false, false, false, false, false, false, false, false, false, false, false, false, false]
  refine wpAnyH_take (i := 0) (v := ?_) rfl (by kernel_rfl) (by kernel_rfl) (by kernel_rfl) (fun _ _ _ h => h) (Or.inl ⟨by rfl, ?_⟩) (by assumption) ?_
  rotate_left
  · intro w hSw
    try dsimp only at hSw
    go_simp
    try with_reducible rfl
  try simp only [Act.put, List.getElem_toArray, List.getElem_cons_zero, List.getElem_cons_succ, List.setIfInBounds_toArray, List.set_cons_zero, List.set_cons_succ]
  refine wpAnyH_take (i := 1) (v := ?_) rfl (by kernel_rfl) (by kernel_rfl) (by kernel_rfl) (fun _ _ _ h => h) (Or.inl ⟨by rfl, ?_⟩) (by assumption) ?_
  rotate_left
  · intro w hSw
    try dsimp only at hSw
    go_simp
    try with_reducible rfl
  try simp only [Act.put, List.getElem_toArray, List.getElem_cons_zero, List.getElem_cons_succ, List.setIfInBounds_toArray, List.set_cons_zero, List.set_cons_succ]
  refine wpAnyH_take (i := 2) (v := ?_) rfl (by kernel_rfl) (by kernel_rfl) (by kernel_rfl) (fun _ _ _ h => h) (Or.inl ⟨by rfl, ?_⟩) (by assumption) ?_
  rotate_left
  · intro w hSw
    try dsimp only at hSw
    go_simp
    try with_reducible rfl
  try simp only [Act.put, List.getElem_toArray, List.getElem_cons_zero, List.getElem_cons_succ, List.setIfInBounds_toArray, List.set_cons_zero, List.set_cons_succ]
  refine wpAnyH_take (i := 4) (v := ?_) rfl (by kernel_rfl) (by kernel_rfl) (by kernel_rfl) (fun _ _ _ h => h) (Or.inl ⟨by rfl, ?_⟩) (by assumption) ?_
  rotate_left
  · intro w hSw
    try dsimp only at hSw
    go_simp
    try with_reducible rfl
  try simp only [Act.put, List.getElem_toArray, List.getElem_cons_zero, List.getElem_cons_succ, List.setIfInBounds_toArray, List.set_cons_zero, List.set_cons_succ]
  refine wpAnyH_take (i := 5) (v := ?_) rfl (by kernel_rfl) (by kernel_rfl) (by kernel_rfl) (fun _ _ _ h => h) (Or.inl ⟨by rfl, ?_⟩) (by assumption) ?_
  rotate_left
  · intro w hSw
    try dsimp only at hSw
    go_simp
    try with_reducible rfl
  try simp only [Act.put, List.getElem_toArray, List.getElem_cons_zero, List.getElem_cons_succ, List.setIfInBounds_toArray, List.set_cons_zero, List.set_cons_succ]
  refine wpAnyH_take (i := 6) (v := ?_) rfl (by kernel_rfl) (by kernel_rfl) (by kernel_rfl) (fun _ _ _ h => h) (Or.inl ⟨by rfl, ?_⟩) (by assumption) ?_
  rotate_left
  · intro w hSw
    try dsimp only at hSw
    go_simp
    try with_reducible rfl
  try simp only [Act.put, List.getElem_toArray, List.getElem_cons_zero, List.getElem_cons_succ, List.setIfInBounds_toArray, List.set_cons_zero, List.set_cons_succ]
  refine wpAnyH_take (i := 7) (v := ?_) rfl (by kernel_rfl) (by kernel_rfl) (by kernel_rfl) (fun _ _ _ h => h) (Or.inl ⟨by rfl, ?_⟩) (by assumption) ?_
  rotate_left
  · intro w hSw
    try dsimp only at hSw
    go_simp
    try with_reducible rfl
  try simp only [Act.put, List.getElem_toArray, List.getElem_cons_zero, List.getElem_cons_succ, List.setIfInBounds_toArray, List.set_cons_zero, List.set_cons_succ]
  refine wpAnyH_take (i := 9) (v := ?_) rfl (by kernel_rfl) (by kernel_rfl) (by kernel_rfl) (fun _ _ _ h => h) (Or.inl ⟨by rfl, ?_⟩) (by assumption) ?_
  rotate_left
  · intro w hSw
    try dsimp only at hSw
    go_simp
    try with_reducible rfl
  try simp only [Act.put, List.getElem_toArray, List.getElem_cons_zero, List.getElem_cons_succ, List.setIfInBounds_toArray, List.set_cons_zero, List.set_cons_succ]
  refine wpAnyH_take (i := 10) (v := ?_) rfl (by kernel_rfl) (by kernel_rfl) (by kernel_rfl) (fun _ _ _ h => h) (Or.inl ⟨by rfl, ?_⟩) (by assumption) ?_
  rotate_left
  · intro w hSw
    try dsimp only at hSw
    go_simp
    try with_reducible rfl
  try simp only [Act.put, List.getElem_toArray, List.getElem_cons_zero, List.getElem_cons_succ, List.setIfInBounds_toArray, List.set_cons_zero, List.set_cons_succ]
  refine wpAnyH_take (i := 11) (v := ?_) rfl (by kernel_rfl) (by kernel_rfl) (by kernel_rfl) (fun _ _ _ h => h) (Or.inl ⟨by rfl, ?_⟩) (by assumption) ?_
  rotate_left
  · intro w hSw
    try dsimp only at hSw
    go_simp
    try with_reducible rfl
  try simp only [Act.put, List.getElem_toArray, List.getElem_cons_zero, List.getElem_cons_succ, List.setIfInBounds_toArray, List.set_cons_zero, List.set_cons_succ]
  refine wpAnyH_take (i := 12) (v := ?_) rfl (by kernel_rfl) (by kernel_rfl) (by kernel_rfl) (fun _ _ _ h => h) (Or.inl ⟨by rfl, ?_⟩) (by assumption) ?_
  rotate_left
  · intro w hSw
    try dsimp only at hSw
    go_simp
    try with_reducible rfl
  try simp only [Act.put, List.getElem_toArray, List.getElem_cons_zero, List.getElem_cons_succ, List.setIfInBounds_toArray, List.set_cons_zero, List.set_cons_succ]
  refine wpAnyH_take (i := 14) (v := ?_) rfl (by kernel_rfl) (by kernel_rfl) (by kernel_rfl) (fun _ _ _ h => h) (Or.inl ⟨by rfl, ?_⟩) (by assumption) ?_
  rotate_left
  · intro w hSw
    try dsimp only at hSw
    go_simp
    try with_reducible rfl
  try simp only [Act.put, List.getElem_toArray, List.getElem_cons_zero, List.getElem_cons_succ, List.setIfInBounds_toArray, List.set_cons_zero, List.set_cons_succ]
  refine wpAnyH_take (i := 15) (v := ?_) rfl (by kernel_rfl) (by kernel_rfl) (by kernel_rfl) (fun _ _ _ h => h) (Or.inl ⟨by rfl, ?_⟩) (by assumption) ?_
  rotate_left
  · intro w hSw
    try dsimp only at hSw
    go_simp
    try with_reducible rfl
  try simp only [Act.put, List.getElem_toArray, List.getElem_cons_zero, List.getElem_cons_succ, List.setIfInBounds_toArray, List.set_cons_zero, List.set_cons_succ]
  refine wpAnyH_take (i := 16) (v := ?_) rfl (by kernel_rfl) (by kernel_rfl) (by kernel_rfl) (fun _ _ _ h => h) (Or.inl ⟨by rfl, ?_⟩) (by assumption) ?_
  rotate_left
  · intro w hSw
    try dsimp only at hSw
    go_simp
    try with_reducible rfl
  try simp only [Act.put, List.getElem_toArray, List.getElem_cons_zero, List.getElem_cons_succ, List.setIfInBounds_toArray, List.set_cons_zero, List.set_cons_succ]
  refine wpAnyH_take (i := 17) (v := ?_) rfl (by kernel_rfl) (by kernel_rfl) (by kernel_rfl) (fun _ _ _ h => h) (Or.inl ⟨by rfl, ?_⟩) (by assumption) ?_
  rotate_left
  · intro w hSw
    try dsimp only at hSw
    go_simp
    try with_reducible rfl
  try simp only [Act.put, List.getElem_toArray, List.getElem_cons_zero, List.getElem_cons_succ, List.setIfInBounds_toArray, List.set_cons_zero, List.set_cons_succ]
  refine wpAnyH_ready (rs := [3, 8]) (by kernel_rfl) (by simp) ?_
  refine AllReadyH.cons rfl (fun K hK => ?_) ?_
  · have c15 := HC15.out _ _ HX0.out
    go_simp
    clear c15
    refine hK.out _ w.drew (HRB.out _ _ HX0.out) (fun hHeld => ?_)
    clear hK K
    try simp only [Act.put, List.getElem_toArray, List.getElem_cons_zero, List.getElem_cons_succ, List.setIfInBounds_toArray, List.set_cons_zero, List.set_cons_succ]
    refine wpAnyH_ready (rs := [8]) (by kernel_rfl) (by simp) ?_
    refine AllReadyH.cons rfl (fun K hK => ?_) AllReadyH.nil
    refine step_call1 _ (by rfl) 61 (.tmp 11) _ (by rfl) (.pointer (some ⟨ib, 0, none⟩)) (by simp [Act.eval]) (fun args w => by kernel_rfl) ?_
    refine (HT1.out _ HX0.out).mono ?_
    rintro e w1 ⟨rfl, ha, hs⟩
    have HX1 := Lib.hid (RdX.sep HF.out HX0.out (by rw [HIB.out] at ha; exact ha) (by rw [HIB.out] at hs; exact hs))
    clear ha hs
    refine ⟨_, rfl, ?_⟩
    refine hK.out _ _ (HRB.out _ _ HX1.out) (fun hHeld => ?_)
    clear hK K
    try simp only [Act.put, List.getElem_toArray, List.getElem_cons_zero, List.getElem_cons_succ, List.setIfInBounds_toArray, List.set_cons_zero, List.set_cons_succ]
    refine wpAnyH_ready (rs := [13]) (by kernel_rfl) (by simp) ?_
    refine AllReadyH.cons rfl (fun K hK => ?_) AllReadyH.nil
    refine step_call1 _ (by rfl) 61 (.tmp 16) _ (by rfl) (.pointer (some ⟨ib, 0, none⟩)) (by simp [Act.eval]) (fun args w => by kernel_rfl) ?_
    refine (HT2.out _ HX1.out).mono ?_
    rintro e w2 ⟨rfl, ha, hs⟩
    have HX2 := Lib.hid (RdX.sep HF.out HX1.out (by rw [HIB.out] at ha; exact ha) (by rw [HIB.out] at hs; exact hs))
    clear ha hs
    refine ⟨_, rfl, ?_⟩
    refine hK.out _ _ (HRB.out _ _ HX2.out) (fun hHeld => ?_)
    clear hK K
    try simp only [Act.put, List.getElem_toArray, List.getElem_cons_zero, List.getElem_cons_succ, List.setIfInBounds_toArray, List.set_cons_zero, List.set_cons_succ]
    refine wpAnyH_ready (rs := [18]) (by kernel_rfl) (by simp) ?_
    refine AllReadyH.cons rfl (fun K hK => ?_) AllReadyH.nil
    refine step_call1 _ (by rfl) 105 (.tmp 21) _ (by rfl) (.pointer (some ⟨ib, 0, none⟩)) (by simp [Act.eval]) (fun args w => by kernel_rfl) ?_
    refine (HT3.out _ HX2.out).mono ?_
    rintro e w3 ⟨rfl, ha, hs⟩
    have HX3 := Lib.hid (RdX.sep HF.out HX2.out (by rw [HIB.out] at ha; exact ha) (by rw [HIB.out] at hs; exact hs))
    clear ha hs
    refine ⟨_, rfl, ?_⟩
    refine hK.out _ _ (HRB.out _ _ HX3.out) (fun hHeld => ?_)
    clear hK K
    try simp only [Act.put, List.getElem_toArray, List.getElem_cons_zero, List.getElem_cons_succ, List.setIfInBounds_toArray, List.set_cons_zero, List.set_cons_succ]
    refine wpAnyH_take (i := 19) (v := ?_) rfl (by kernel_rfl) (by kernel_rfl) (by kernel_rfl) (fun _ _ _ h => h) (Or.inl ⟨by rfl, ?_⟩) (by assumption) ?_
    rotate_left
    · intro w hSw
      try dsimp only at hSw
      go_simp
      try with_reducible rfl
    try simp only [Act.put, List.getElem_toArray, List.getElem_cons_zero, List.getElem_cons_succ, List.setIfInBounds_toArray, List.set_cons_zero, List.set_cons_succ]
    refine wpAnyH_ready (rs := [20]) (by kernel_rfl) (by simp) ?_
    refine AllReadyH.cons rfl (fun K hK => ?_) AllReadyH.nil
    have HX4 := Lib.hid (HX3.out.below ((Below.refl _ _).alloc (Nat.le_refl _) (.cells #[.int .i64 y0, .int .i64 y1, .string y2] 100)))
    have HNB := Lib.hid (heap_alloc_new w3 (.cells #[.int .i64 y0, .int .i64 y1, .string y2] 100))
    go_simp
    refine hK.out _ (World.alloc w3 (.cells #[.int .i64 y0, .int .i64 y1, .string y2] 100)) (HRB.out _ _ HX4.out) (fun hHeld => ?_)
    clear hK K
    try simp only [Act.put, List.getElem_toArray, List.getElem_cons_zero, List.getElem_cons_succ, List.setIfInBounds_toArray, List.set_cons_zero, List.set_cons_succ]
    refine wpAnyH_ready (rs := [21]) (by kernel_rfl) (by simp) ?_
    refine AllReadyH.cons rfl (fun K hK => ?_) AllReadyH.nil
    refine step_append _ (by rfl) (.tmp 7) (.tmp 24) 51 100 3 (by decide) (by rfl) i0 (.agg #[.int .i64 0, .int .i64 0, .string ⟨#[]⟩]) 32 Tryd.underlying51 hi0 hz0 hz1 hz2 (by rfl) C.W0.heap.size (.slice B nk cap2) nk _ (by simp [Act.eval]) (by rw [HNK.out]; exact HX4.out.es) ⟨w3.heap.size, 0, none⟩ 1 (by simp [Act.eval]) (entC ⟨y0, y1, y2⟩) rfl (three_new _ _ HNB.out) (by intro u hu; simp only [entC, List.mem_cons, List.not_mem_nil, or_false] at hu; rcases hu with rfl | rfl | rfl <;> rfl) (by unfold maxLen; omega) (by omega) HX4.out.bel.size ?_
    intro v5 w5 ho hg
    obtain ⟨A5, c5, rfl⟩ := Gn.slice_of ho
    rw [HNK.out] at ho hg
    have HG := Lib.hid (RdX.growE HX4.out ho hg)
    clear ho hg
    refine hK.out _ _ (by rw [HRBE.out, HIB.out]; exact cell_of_row _ _ 0 _ _ (0, 0) HG.out.rd) (fun hHeld => ?_)
    clear hK K
    try simp only [Act.put, List.getElem_toArray, List.getElem_cons_zero, List.getElem_cons_succ, List.setIfInBounds_toArray, List.set_cons_zero, List.set_cons_succ]
    refine wpAnyH_take (i := 22) (v := ?_) rfl (by kernel_rfl) (by kernel_rfl) (by kernel_rfl) (fun _ _ _ h => h) (Or.inl ⟨by rfl, ?_⟩) (by assumption) ?_
    rotate_left
    · intro w hSw
      try dsimp only at hSw
      go_simp
      try with_reducible rfl
    try simp only [Act.put, List.getElem_toArray, List.getElem_cons_zero, List.getElem_cons_succ, List.setIfInBounds_toArray, List.set_cons_zero, List.set_cons_succ]
    refine wpAnyH_ready (rs := [23]) (by kernel_rfl) (by simp) ?_
    refine AllReadyH.cons rfl (fun K hK => ?_) AllReadyH.nil
    have c0 : w5.cell? ⟨mb, 15, none⟩ = some (.slice B nk cap2) := by rw [HMB.out, HNK.out]; exact cell_of_row _ _ 15 _ _ (0, 0) HG.out.msg
    have hfz : w5.frozen? ⟨mb, 15, none⟩ = false := by rw [HMB.out]; exact Gn.frozen_row HG.out.msg 15
    have HD := Lib.hid (GrE.done HF.out HG.out)
    rw [← HMB.out, ← HNK.out] at HD
    go_simp
    refine hK.out _ (w5.setCell ⟨mb, 15, none⟩ (.slice A5 (nk + 1) c5)) (by rw [HRBE.out, HIB.out]; exact cell_of_row _ _ 0 _ _ (0, 0) HD.out.rd) (fun hHeld => ?_)
    clear hK K
    try simp only [Act.put, List.getElem_toArray, List.getElem_cons_zero, List.getElem_cons_succ, List.setIfInBounds_toArray, List.set_cons_zero, List.set_cons_succ]
    refine wpAnyH_done (by kernel_rfl) ?_ _
    refine NoPanic.normal ?_
    clear c0 hfz
    go_wp2_with fail
    go_end0
    exact ⟨rfl, HD.out⟩
  refine AllReadyH.cons rfl (fun K hK => ?_) AllReadyH.nil
  · refine step_call1 _ (by rfl) 61 (.tmp 11) _ (by rfl) (.pointer (some ⟨ib, 0, none⟩)) (by simp [Act.eval]) (fun args w => by kernel_rfl) ?_
    refine (HT1.out _ HX0.out).mono ?_
    rintro e w1 ⟨rfl, ha, hs⟩
    have HX1 := Lib.hid (RdX.sep HF.out HX0.out (by rw [HIB.out] at ha; exact ha) (by rw [HIB.out] at hs; exact hs))
    clear ha hs
    refine ⟨_, rfl, ?_⟩
    refine hK.out _ _ (HRB.out _ _ HX1.out) (fun hHeld => ?_)
    clear hK K
    try simp only [Act.put, List.getElem_toArray, List.getElem_cons_zero, List.getElem_cons_succ, List.setIfInBounds_toArray, List.set_cons_zero, List.set_cons_succ]
    refine wpAnyH_ready (rs := [3, 13]) (by kernel_rfl) (by simp) ?_
    refine AllReadyH.cons rfl (fun K hK => ?_) ?_
    · have c15 := HC15.out _ _ HX1.out
      go_simp
      clear c15
      refine hK.out _ w1 (HRB.out _ _ HX1.out) (fun hHeld => ?_)
      clear hK K
      try simp only [Act.put, List.getElem_toArray, List.getElem_cons_zero, List.getElem_cons_succ, List.setIfInBounds_toArray, List.set_cons_zero, List.set_cons_succ]
      refine wpAnyH_ready (rs := [13]) (by kernel_rfl) (by simp) ?_
      refine AllReadyH.cons rfl (fun K hK => ?_) AllReadyH.nil
      refine step_call1 _ (by rfl) 61 (.tmp 16) _ (by rfl) (.pointer (some ⟨ib, 0, none⟩)) (by simp [Act.eval]) (fun args w => by kernel_rfl) ?_
      refine (HT2.out _ HX1.out).mono ?_
      rintro e w2 ⟨rfl, ha, hs⟩
      have HX2 := Lib.hid (RdX.sep HF.out HX1.out (by rw [HIB.out] at ha; exact ha) (by rw [HIB.out] at hs; exact hs))
      clear ha hs
      refine ⟨_, rfl, ?_⟩
      refine hK.out _ _ (HRB.out _ _ HX2.out) (fun hHeld => ?_)
      clear hK K
      try simp only [Act.put, List.getElem_toArray, List.getElem_cons_zero, List.getElem_cons_succ, List.setIfInBounds_toArray, List.set_cons_zero, List.set_cons_succ]
      refine wpAnyH_ready (rs := [18]) (by kernel_rfl) (by simp) ?_
      refine AllReadyH.cons rfl (fun K hK => ?_) AllReadyH.nil
      refine step_call1 _ (by rfl) 105 (.tmp 21) _ (by rfl) (.pointer (some ⟨ib, 0, none⟩)) (by simp [Act.eval]) (fun args w => by kernel_rfl) ?_
      refine (HT3.out _ HX2.out).mono ?_
      rintro e w3 ⟨rfl, ha, hs⟩
      have HX3 := Lib.hid (RdX.sep HF.out HX2.out (by rw [HIB.out] at ha; exact ha) (by rw [HIB.out] at hs; exact hs))
      clear ha hs
      refine ⟨_, rfl, ?_⟩
      refine hK.out _ _ (HRB.out _ _ HX3.out) (fun hHeld => ?_)
      clear hK K
      try simp only [Act.put, List.getElem_toArray, List.getElem_cons_zero, List.getElem_cons_succ, List.setIfInBounds_toArray, List.set_cons_zero, List.set_cons_succ]
      refine wpAnyH_take (i := 19) (v := ?_) rfl (by kernel_rfl) (by kernel_rfl) (by kernel_rfl) (fun _ _ _ h => h) (Or.inl ⟨by rfl, ?_⟩) (by assumption) ?_
      rotate_left
      · intro w hSw
        try dsimp only at hSw
        go_simp
        try with_reducible rfl
      try simp only [Act.put, List.getElem_toArray, List.getElem_cons_zero, List.getElem_cons_succ, List.setIfInBounds_toArray, List.set_cons_zero, List.set_cons_succ]
      refine wpAnyH_ready (rs := [20]) (by kernel_rfl) (by simp) ?_
      refine AllReadyH.cons rfl (fun K hK => ?_) AllReadyH.nil
      have HX4 := Lib.hid (HX3.out.below ((Below.refl _ _).alloc (Nat.le_refl _) (.cells #[.int .i64 y0, .int .i64 y1, .string y2] 100)))
      have HNB := Lib.hid (heap_alloc_new w3 (.cells #[.int .i64 y0, .int .i64 y1, .string y2] 100))
      go_simp
      refine hK.out _ (World.alloc w3 (.cells #[.int .i64 y0, .int .i64 y1, .string y2] 100)) (HRB.out _ _ HX4.out) (fun hHeld => ?_)
      clear hK K
      try simp only [Act.put, List.getElem_toArray, List.getElem_cons_zero, List.getElem_cons_succ, List.setIfInBounds_toArray, List.set_cons_zero, List.set_cons_succ]
      refine wpAnyH_ready (rs := [21]) (by kernel_rfl) (by simp) ?_
      refine AllReadyH.cons rfl (fun K hK => ?_) AllReadyH.nil
      refine step_append _ (by rfl) (.tmp 7) (.tmp 24) 51 100 3 (by decide) (by rfl) i0 (.agg #[.int .i64 0, .int .i64 0, .string ⟨#[]⟩]) 32 Tryd.underlying51 hi0 hz0 hz1 hz2 (by rfl) C.W0.heap.size (.slice B nk cap2) nk _ (by simp [Act.eval]) (by rw [HNK.out]; exact HX4.out.es) ⟨w3.heap.size, 0, none⟩ 1 (by simp [Act.eval]) (entC ⟨y0, y1, y2⟩) rfl (three_new _ _ HNB.out) (by intro u hu; simp only [entC, List.mem_cons, List.not_mem_nil, or_false] at hu; rcases hu with rfl | rfl | rfl <;> rfl) (by unfold maxLen; omega) (by omega) HX4.out.bel.size ?_
      intro v5 w5 ho hg
      obtain ⟨A5, c5, rfl⟩ := Gn.slice_of ho
      rw [HNK.out] at ho hg
      have HG := Lib.hid (RdX.growE HX4.out ho hg)
      clear ho hg
      refine hK.out _ _ (by rw [HRBE.out, HIB.out]; exact cell_of_row _ _ 0 _ _ (0, 0) HG.out.rd) (fun hHeld => ?_)
      clear hK K
      try simp only [Act.put, List.getElem_toArray, List.getElem_cons_zero, List.getElem_cons_succ, List.setIfInBounds_toArray, List.set_cons_zero, List.set_cons_succ]
      refine wpAnyH_take (i := 22) (v := ?_) rfl (by kernel_rfl) (by kernel_rfl) (by kernel_rfl) (fun _ _ _ h => h) (Or.inl ⟨by rfl, ?_⟩) (by assumption) ?_
      rotate_left
      · intro w hSw
        try dsimp only at hSw
        go_simp
        try with_reducible rfl
      try simp only [Act.put, List.getElem_toArray, List.getElem_cons_zero, List.getElem_cons_succ, List.setIfInBounds_toArray, List.set_cons_zero, List.set_cons_succ]
      refine wpAnyH_ready (rs := [23]) (by kernel_rfl) (by simp) ?_
      refine AllReadyH.cons rfl (fun K hK => ?_) AllReadyH.nil
      have c0 : w5.cell? ⟨mb, 15, none⟩ = some (.slice B nk cap2) := by rw [HMB.out, HNK.out]; exact cell_of_row _ _ 15 _ _ (0, 0) HG.out.msg
      have hfz : w5.frozen? ⟨mb, 15, none⟩ = false := by rw [HMB.out]; exact Gn.frozen_row HG.out.msg 15
      have HD := Lib.hid (GrE.done HF.out HG.out)
      rw [← HMB.out, ← HNK.out] at HD
      go_simp
      refine hK.out _ (w5.setCell ⟨mb, 15, none⟩ (.slice A5 (nk + 1) c5)) (by rw [HRBE.out, HIB.out]; exact cell_of_row _ _ 0 _ _ (0, 0) HD.out.rd) (fun hHeld => ?_)
      clear hK K
      try simp only [Act.put, List.getElem_toArray, List.getElem_cons_zero, List.getElem_cons_succ, List.setIfInBounds_toArray, List.set_cons_zero, List.set_cons_succ]
      refine wpAnyH_done (by kernel_rfl) ?_ _
      refine NoPanic.normal ?_
      clear c0 hfz
      go_wp2_with fail
      go_end0
      exact ⟨rfl, HD.out⟩
    refine AllReadyH.cons rfl (fun K hK => ?_) AllReadyH.nil
    · refine step_call1 _ (by rfl) 61 (.tmp 16) _ (by rfl) (.pointer (some ⟨ib, 0, none⟩)) (by simp [Act.eval]) (fun args w => by kernel_rfl) ?_
      refine (HT2.out _ HX1.out).mono ?_
      rintro e w2 ⟨rfl, ha, hs⟩
      have HX2 := Lib.hid (RdX.sep HF.out HX1.out (by rw [HIB.out] at ha; exact ha) (by rw [HIB.out] at hs; exact hs))
      clear ha hs
      refine ⟨_, rfl, ?_⟩
      refine hK.out _ _ (HRB.out _ _ HX2.out) (fun hHeld => ?_)
      clear hK K
      try simp only [Act.put, List.getElem_toArray, List.getElem_cons_zero, List.getElem_cons_succ, List.setIfInBounds_toArray, List.set_cons_zero, List.set_cons_succ]
      refine wpAnyH_ready (rs := [3, 18]) (by kernel_rfl) (by simp) ?_
      refine AllReadyH.cons rfl (fun K hK => ?_) ?_
      · have c15 := HC15.out _ _ HX2.out
        go_simp
        clear c15
        refine hK.out _ w2 (HRB.out _ _ HX2.out) (fun hHeld => ?_)
        clear hK K
        try simp only [Act.put, List.getElem_toArray, List.getElem_cons_zero, List.getElem_cons_succ, List.setIfInBounds_toArray, List.set_cons_zero, List.set_cons_succ]
        refine wpAnyH_ready (rs := [18]) (by kernel_rfl) (by simp) ?_
        refine AllReadyH.cons rfl (fun K hK => ?_) AllReadyH.nil
        refine step_call1 _ (by rfl) 105 (.tmp 21) _ (by rfl) (.pointer (some ⟨ib, 0, none⟩)) (by simp [Act.eval]) (fun args w => by kernel_rfl) ?_
        refine (HT3.out _ HX2.out).mono ?_
        rintro e w3 ⟨rfl, ha, hs⟩
        have HX3 := Lib.hid (RdX.sep HF.out HX2.out (by rw [HIB.out] at ha; exact ha) (by rw [HIB.out] at hs; exact hs))
        clear ha hs
        refine ⟨_, rfl, ?_⟩
        refine hK.out _ _ (HRB.out _ _ HX3.out) (fun hHeld => ?_)
        clear hK K
        try simp only [Act.put, List.getElem_toArray, List.getElem_cons_zero, List.getElem_cons_succ, List.setIfInBounds_toArray, List.set_cons_zero, List.set_cons_succ]
        refine wpAnyH_take (i := 19) (v := ?_) rfl (by kernel_rfl) (by kernel_rfl) (by kernel_rfl) (fun _ _ _ h => h) (Or.inl ⟨by rfl, ?_⟩) (by assumption) ?_
        rotate_left
        · intro w hSw
          try dsimp only at hSw
          go_simp
          try with_reducible rfl
        try simp only [Act.put, List.getElem_toArray, List.getElem_cons_zero, List.getElem_cons_succ, List.setIfInBounds_toArray, List.set_cons_zero, List.set_cons_succ]
        refine wpAnyH_ready (rs := [20]) (by kernel_rfl) (by simp) ?_
        refine AllReadyH.cons rfl (fun K hK => ?_) AllReadyH.nil
        have HX4 := Lib.hid (HX3.out.below ((Below.refl _ _).alloc (Nat.le_refl _) (.cells #[.int .i64 y0, .int .i64 y1, .string y2] 100)))
        have HNB := Lib.hid (heap_alloc_new w3 (.cells #[.int .i64 y0, .int .i64 y1, .string y2] 100))
        go_simp
        refine hK.out _ (World.alloc w3 (.cells #[.int .i64 y0, .int .i64 y1, .string y2] 100)) (HRB.out _ _ HX4.out) (fun hHeld => ?_)
        clear hK K
        try simp only [Act.put, List.getElem_toArray, List.getElem_cons_zero, List.getElem_cons_succ, List.setIfInBounds_toArray, List.set_cons_zero, List.set_cons_succ]
        refine wpAnyH_ready (rs := [21]) (by kernel_rfl) (by simp) ?_
        refine AllReadyH.cons rfl (fun K hK => ?_) AllReadyH.nil
        refine step_append _ (by rfl) (.tmp 7) (.tmp 24) 51 100 3 (by decide) (by rfl) i0 (.agg #[.int .i64 0, .int .i64 0, .string ⟨#[]⟩]) 32 Tryd.underlying51 hi0 hz0 hz1 hz2 (by rfl) C.W0.heap.size (.slice B nk cap2) nk _ (by simp [Act.eval]) (by rw [HNK.out]; exact HX4.out.es) ⟨w3.heap.size, 0, none⟩ 1 (by simp [Act.eval]) (entC ⟨y0, y1, y2⟩) rfl (three_new _ _ HNB.out) (by intro u hu; simp only [entC, List.mem_cons, List.not_mem_nil, or_false] at hu; rcases hu with rfl | rfl | rfl <;> rfl) (by unfold maxLen; omega) (by omega) HX4.out.bel.size ?_
        intro v5 w5 ho hg
        obtain ⟨A5, c5, rfl⟩ := Gn.slice_of ho
        rw [HNK.out] at ho hg
        have HG := Lib.hid (RdX.growE HX4.out ho hg)
        clear ho hg
        refine hK.out _ _ (by rw [HRBE.out, HIB.out]; exact cell_of_row _ _ 0 _ _ (0, 0) HG.out.rd) (fun hHeld => ?_)
        clear hK K
        try simp only [Act.put, List.getElem_toArray, List.getElem_cons_zero, List.getElem_cons_succ, List.setIfInBounds_toArray, List.set_cons_zero, List.set_cons_succ]
        refine wpAnyH_take (i := 22) (v := ?_) rfl (by kernel_rfl) (by kernel_rfl) (by kernel_rfl) (fun _ _ _ h => h) (Or.inl ⟨by rfl, ?_⟩) (by assumption) ?_
        rotate_left
        · intro w hSw
          try dsimp only at hSw
          go_simp
          try with_reducible rfl
        try simp only [Act.put, List.getElem_toArray, List.getElem_cons_zero, List.getElem_cons_succ, List.setIfInBounds_toArray, List.set_cons_zero, List.set_cons_succ]
        refine wpAnyH_ready (rs := [23]) (by kernel_rfl) (by simp) ?_
        refine AllReadyH.cons rfl (fun K hK => ?_) AllReadyH.nil
        have c0 : w5.cell? ⟨mb, 15, none⟩ = some (.slice B nk cap2) := by rw [HMB.out, HNK.out]; exact cell_of_row _ _ 15 _ _ (0, 0) HG.out.msg
        have hfz : w5.frozen? ⟨mb, 15, none⟩ = false := by rw [HMB.out]; exact Gn.frozen_row HG.out.msg 15
        have HD := Lib.hid (GrE.done HF.out HG.out)
        rw [← HMB.out, ← HNK.out] at HD
        go_simp
        refine hK.out _ (w5.setCell ⟨mb, 15, none⟩ (.slice A5 (nk + 1) c5)) (by rw [HRBE.out, HIB.out]; exact cell_of_row _ _ 0 _ _ (0, 0) HD.out.rd) (fun hHeld => ?_)
        clear hK K
        try simp only [Act.put, List.getElem_toArray, List.getElem_cons_zero, List.getElem_cons_succ, List.setIfInBounds_toArray, List.set_cons_zero, List.set_cons_succ]
        refine wpAnyH_done (by kernel_rfl) ?_ _
        refine NoPanic.normal ?_
        clear c0 hfz
        go_wp2_with fail
        go_end0
        exact ⟨rfl, HD.out⟩
      refine AllReadyH.cons rfl (fun K hK => ?_) AllReadyH.nil
      · refine step_call1 _ (by rfl) 105 (.tmp 21) _ (by rfl) (.pointer (some ⟨ib, 0, none⟩)) (by simp [Act.eval]) (fun args w => by kernel_rfl) ?_
        refine (HT3.out _ HX2.out).mono ?_
        rintro e w3 ⟨rfl, ha, hs⟩
        have HX3 := Lib.hid (RdX.sep HF.out HX2.out (by rw [HIB.out] at ha; exact ha) (by rw [HIB.out] at hs; exact hs))
        clear ha hs
        refine ⟨_, rfl, ?_⟩
        refine hK.out _ _ (HRB.out _ _ HX3.out) (fun hHeld => ?_)
        clear hK K
        try simp only [Act.put, List.getElem_toArray, List.getElem_cons_zero, List.getElem_cons_succ, List.setIfInBounds_toArray, List.set_cons_zero, List.set_cons_succ]
        refine wpAnyH_take (i := 19) (v := ?_) rfl (by kernel_rfl) (by kernel_rfl) (by kernel_rfl) (fun _ _ _ h => h) (Or.inl ⟨by rfl, ?_⟩) (by assumption) ?_
        rotate_left
        · intro w hSw
          try dsimp only at hSw
          go_simp
          try with_reducible rfl
        try simp only [Act.put, List.getElem_toArray, List.getElem_cons_zero, List.getElem_cons_succ, List.setIfInBounds_toArray, List.set_cons_zero, List.set_cons_succ]
        refine wpAnyH_ready (rs := [3, 20]) (by kernel_rfl) (by simp) ?_
        refine AllReadyH.cons rfl (fun K hK => ?_) ?_
        · have c15 := HC15.out _ _ HX3.out
          go_simp
          clear c15
          refine hK.out _ w3 (HRB.out _ _ HX3.out) (fun hHeld => ?_)
          clear hK K
          try simp only [Act.put, List.getElem_toArray, List.getElem_cons_zero, List.getElem_cons_succ, List.setIfInBounds_toArray, List.set_cons_zero, List.set_cons_succ]
          refine wpAnyH_ready (rs := [20]) (by kernel_rfl) (by simp) ?_
          refine AllReadyH.cons rfl (fun K hK => ?_) AllReadyH.nil
          have HX4 := Lib.hid (HX3.out.below ((Below.refl _ _).alloc (Nat.le_refl _) (.cells #[.int .i64 y0, .int .i64 y1, .string y2] 100)))
          have HNB := Lib.hid (heap_alloc_new w3 (.cells #[.int .i64 y0, .int .i64 y1, .string y2] 100))
          go_simp
          refine hK.out _ (World.alloc w3 (.cells #[.int .i64 y0, .int .i64 y1, .string y2] 100)) (HRB.out _ _ HX4.out) (fun hHeld => ?_)
          clear hK K
          try simp only [Act.put, List.getElem_toArray, List.getElem_cons_zero, List.getElem_cons_succ, List.setIfInBounds_toArray, List.set_cons_zero, List.set_cons_succ]
          refine wpAnyH_ready (rs := [21]) (by kernel_rfl) (by simp) ?_
          refine AllReadyH.cons rfl (fun K hK => ?_) AllReadyH.nil
          refine step_append _ (by rfl) (.tmp 7) (.tmp 24) 51 100 3 (by decide) (by rfl) i0 (.agg #[.int .i64 0, .int .i64 0, .string ⟨#[]⟩]) 32 Tryd.underlying51 hi0 hz0 hz1 hz2 (by rfl) C.W0.heap.size (.slice B nk cap2) nk _ (by simp [Act.eval]) (by rw [HNK.out]; exact HX4.out.es) ⟨w3.heap.size, 0, none⟩ 1 (by simp [Act.eval]) (entC ⟨y0, y1, y2⟩) rfl (three_new _ _ HNB.out) (by intro u hu; simp only [entC, List.mem_cons, List.not_mem_nil, or_false] at hu; rcases hu with rfl | rfl | rfl <;> rfl) (by unfold maxLen; omega) (by omega) HX4.out.bel.size ?_
          intro v5 w5 ho hg
          obtain ⟨A5, c5, rfl⟩ := Gn.slice_of ho
          rw [HNK.out] at ho hg
          have HG := Lib.hid (RdX.growE HX4.out ho hg)
          clear ho hg
          refine hK.out _ _ (by rw [HRBE.out, HIB.out]; exact cell_of_row _ _ 0 _ _ (0, 0) HG.out.rd) (fun hHeld => ?_)
          clear hK K
          try simp only [Act.put, List.getElem_toArray, List.getElem_cons_zero, List.getElem_cons_succ, List.setIfInBounds_toArray, List.set_cons_zero, List.set_cons_succ]
          refine wpAnyH_take (i := 22) (v := ?_) rfl (by kernel_rfl) (by kernel_rfl) (by kernel_rfl) (fun _ _ _ h => h) (Or.inl ⟨by rfl, ?_⟩) (by assumption) ?_
          rotate_left
          · intro w hSw
            try dsimp only at hSw
            go_simp
            try with_reducible rfl
          try simp only [Act.put, List.getElem_toArray, List.getElem_cons_zero, List.getElem_cons_succ, List.setIfInBounds_toArray, List.set_cons_zero, List.set_cons_succ]
          refine wpAnyH_ready (rs := [23]) (by kernel_rfl) (by simp) ?_
          refine AllReadyH.cons rfl (fun K hK => ?_) AllReadyH.nil
          have c0 : w5.cell? ⟨mb, 15, none⟩ = some (.slice B nk cap2) := by rw [HMB.out, HNK.out]; exact cell_of_row _ _ 15 _ _ (0, 0) HG.out.msg
          have hfz : w5.frozen? ⟨mb, 15, none⟩ = false := by rw [HMB.out]; exact Gn.frozen_row HG.out.msg 15
          have HD := Lib.hid (GrE.done HF.out HG.out)
          rw [← HMB.out, ← HNK.out] at HD
          go_simp
          refine hK.out _ (w5.setCell ⟨mb, 15, none⟩ (.slice A5 (nk + 1) c5)) (by rw [HRBE.out, HIB.out]; exact cell_of_row _ _ 0 _ _ (0, 0) HD.out.rd) (fun hHeld => ?_)
          clear hK K
          try simp only [Act.put, List.getElem_toArray, List.getElem_cons_zero, List.getElem_cons_succ, List.setIfInBounds_toArray, List.set_cons_zero, List.set_cons_succ]
          refine wpAnyH_done (by kernel_rfl) ?_ _
          refine NoPanic.normal ?_
          clear c0 hfz
          go_wp2_with fail
          go_end0
          exact ⟨rfl, HD.out⟩
        refine AllReadyH.cons rfl (fun K hK => ?_) AllReadyH.nil
        · have HX4 := Lib.hid (HX3.out.below ((Below.refl _ _).alloc (Nat.le_refl _) (.cells #[.int .i64 y0, .int .i64 y1, .string y2] 100)))
          have HNB := Lib.hid (heap_alloc_new w3 (.cells #[.int .i64 y0, .int .i64 y1, .string y2] 100))
          go_simp
          refine hK.out _ (World.alloc w3 (.cells #[.int .i64 y0, .int .i64 y1, .string y2] 100)) (HRB.out _ _ HX4.out) (fun hHeld => ?_)
          clear hK K
          try simp only [Act.put, List.getElem_toArray, List.getElem_cons_zero, List.getElem_cons_succ, List.setIfInBounds_toArray, List.set_cons_zero, List.set_cons_succ]
          refine wpAnyH_ready (rs := [3]) (by kernel_rfl) (by simp) ?_
          refine AllReadyH.cons rfl (fun K hK => ?_) AllReadyH.nil
          have c15 := HC15.out _ _ HX4.out
          go_simp
          clear c15
          refine hK.out _ (World.alloc w3 (.cells #[.int .i64 y0, .int .i64 y1, .string y2] 100)) (HRB.out _ _ HX4.out) (fun hHeld => ?_)
          clear hK K
          try simp only [Act.put, List.getElem_toArray, List.getElem_cons_zero, List.getElem_cons_succ, List.setIfInBounds_toArray, List.set_cons_zero, List.set_cons_succ]
          refine wpAnyH_ready (rs := [21]) (by kernel_rfl) (by simp) ?_
          refine AllReadyH.cons rfl (fun K hK => ?_) AllReadyH.nil
          refine step_append _ (by rfl) (.tmp 7) (.tmp 24) 51 100 3 (by decide) (by rfl) i0 (.agg #[.int .i64 0, .int .i64 0, .string ⟨#[]⟩]) 32 Tryd.underlying51 hi0 hz0 hz1 hz2 (by rfl) C.W0.heap.size (.slice B nk cap2) nk _ (by simp [Act.eval]) (by rw [HNK.out]; exact HX4.out.es) ⟨w3.heap.size, 0, none⟩ 1 (by simp [Act.eval]) (entC ⟨y0, y1, y2⟩) rfl (three_new _ _ HNB.out) (by intro u hu; simp only [entC, List.mem_cons, List.not_mem_nil, or_false] at hu; rcases hu with rfl | rfl | rfl <;> rfl) (by unfold maxLen; omega) (by omega) HX4.out.bel.size ?_
          intro v5 w5 ho hg
          obtain ⟨A5, c5, rfl⟩ := Gn.slice_of ho
          rw [HNK.out] at ho hg
          have HG := Lib.hid (RdX.growE HX4.out ho hg)
          clear ho hg
          refine hK.out _ _ (by rw [HRBE.out, HIB.out]; exact cell_of_row _ _ 0 _ _ (0, 0) HG.out.rd) (fun hHeld => ?_)
          clear hK K
          try simp only [Act.put, List.getElem_toArray, List.getElem_cons_zero, List.getElem_cons_succ, List.setIfInBounds_toArray, List.set_cons_zero, List.set_cons_succ]
          refine wpAnyH_take (i := 22) (v := ?_) rfl (by kernel_rfl) (by kernel_rfl) (by kernel_rfl) (fun _ _ _ h => h) (Or.inl ⟨by rfl, ?_⟩) (by assumption) ?_
          rotate_left
          · intro w hSw
            try dsimp only at hSw
            go_simp
            try with_reducible rfl
          try simp only [Act.put, List.getElem_toArray, List.getElem_cons_zero, List.getElem_cons_succ, List.setIfInBounds_toArray, List.set_cons_zero, List.set_cons_succ]
          refine wpAnyH_ready (rs := [23]) (by kernel_rfl) (by simp) ?_
          refine AllReadyH.cons rfl (fun K hK => ?_) AllReadyH.nil
          have c0 : w5.cell? ⟨mb, 15, none⟩ = some (.slice B nk cap2) := by rw [HMB.out, HNK.out]; exact cell_of_row _ _ 15 _ _ (0, 0) HG.out.msg
          have hfz : w5.frozen? ⟨mb, 15, none⟩ = false := by rw [HMB.out]; exact Gn.frozen_row HG.out.msg 15
          have HD := Lib.hid (GrE.done HF.out HG.out)
          rw [← HMB.out, ← HNK.out] at HD
          go_simp
          refine hK.out _ (w5.setCell ⟨mb, 15, none⟩ (.slice A5 (nk + 1) c5)) (by rw [HRBE.out, HIB.out]; exact cell_of_row _ _ 0 _ _ (0, 0) HD.out.rd) (fun hHeld => ?_)
          clear hK K
          try simp only [Act.put, List.getElem_toArray, List.getElem_cons_zero, List.getElem_cons_succ, List.setIfInBounds_toArray, List.set_cons_zero, List.set_cons_succ]
          refine wpAnyH_done (by kernel_rfl) ?_ _
          refine NoPanic.normal ?_
          clear c0 hfz
          go_wp2_with fail
          go_end0
          exact ⟨rfl, HD.out⟩
end Go.Proofs.YtgbpofgmomglfaaDoor.Ms
