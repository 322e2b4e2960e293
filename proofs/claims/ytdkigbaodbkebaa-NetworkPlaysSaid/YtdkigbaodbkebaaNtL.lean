/-
  Layer 27: NetworkPlays: what stands between the steps.
-/
import Derived.Test.YtdkigbaodbkebaaNtK
import Derived.Test.YtdkigbaodbkebaaNtAc
namespace Go.Proofs.Ytdkigbaodbkebaa.Nt
open Go.RowKit
set_option maxRecDepth 100000
set_option linter.unusedSimpArgs false
set_option linter.unusedVariables false
/-- Append of some items, as a step of a region that draws. -/
theorem step_append_m {ops : Array Oper} {o : Oper} {a : Act} {K : Act → World → Prop} {Q : Exit → Act → World → Prop} {E : Prop} (w : World) (hgd : o.guard = none) (s x : Operand) (T E' : TypeId) (size : Nat) (hs0 : 0 < size)
    (ho : o.op = .call { callee := .builtin .append, args := #[s, x], argTypes := #[T, T] }) (i : TypeInfo) (z : Value) (bytes : Nat) (hT : Try.prog.underlying T = some (.slice E')) (hi : Try.prog.info? E' = some i) (hz : i.zero = some z) (hsize : i.size = size) (hby : i.bytes = bytes) (hzs : z.cells.size = size)
    (base : Nat) (v : Value) (n : Nat) (xs : List Value) (hs : a.eval s = v) (hown : w.ownsRow base E' size v n xs) (ad : Addr) (m c : Nat) (hx : a.eval x = .slice (some ad) m c) (news : List Value) (hl : news.length = m * size) (hnews : ∀ j u, news[j]? = some u → w.cell? (ad.add j) = some u) (h1 : ∀ u ∈ news, u.oneCell' = true) (h63 : n + m ≤ maxLen) (hbytes : (n + m) * bytes ≤ 140737488355328) (hb : base ≤ w.heap.size)
    (h : ∀ v' w', w'.ownsRow base E' size v' (n + m) (xs ++ news) → w.grownBy w' v.ownBlock → K (a.put o.dst v') w') :
    if Region.wanted o (yielded ops a.tmps) = true then Oper.wp Try.prog o a w K Q else E := by
  have hw : Region.wanted o (yielded ops a.tmps) = true := by simp [Region.wanted, hgd]
  rw [if_pos hw]
  obtain ⟨v', w', hr, h2, h3, _⟩ := run_append_own (P := Try.prog) w base T o.type E' i z size bytes hT hi hz hsize hby hzs hs0 v n xs hown ad m c news hl hnews h1 h63 hbytes hb
  unfold Oper.wp execOp
  simp only [ho, resolve, invoke, builtin, Sem.run_bind, Sem.run_pure, Result.andThen_ok, List.map_toArray, List.map_cons, List.map_nil, hs, hx, hr]
  exact h v' w' h2 h3
theorem neq_rf (f0 f1 : Int) (f2 : ByteArray) (f3 : Bool) (w : World) : (binOp .neq 30 (.agg #[.int .i64 f0, .int .i64 f1, .string f2, .bool f3]) (.agg #[.int .i64 f0, .int .i64 f1, .string f2, .bool f3])).run Try.prog w = .ok (.bool false) w := by
  go_simp
theorem neq_zero (w : World) : (binOp .neq 35 (.agg #[.int .i64 0, .int .i64 0, .string ⟨#[]⟩, .bool false]) (.agg #[.int .i64 0, .int .i64 0, .string ⟨#[]⟩, .bool false])).run Try.prog w = .ok (.bool false) w := by
  kernel_rfl
theorem bneq_run (x y : Bool) (w : World) : (binOp .neq 4 (.bool x) (.bool y)).run Try.prog w = .ok (.bool (x != y)) w := by cases x <;> cases y <;> rfl
theorem rf_info : (Try.prog.info? 30).map (fun i => (i.zero, i.size, i.bytes)) = some (some (.agg #[.int .i64 0, .int .i64 0, .string ⟨#[]⟩, .bool false]), 4, 40) := by kernel_rfl
theorem rf_build3 (x y : Int) (t : ByteArray) (w : World) : (Instr.build 30 #[(0, .int .i64 x), (1, .int .i64 y), (2, .string t)]).run Try.prog w = .ok (.agg #[.int .i64 x, .int .i64 y, .string t, .bool false]) w := by kernel_rfl
theorem rf_build2 (x : Int) (t : ByteArray) (w : World) : (Instr.build 30 #[(0, .int .i64 x), (2, .string t)]).run Try.prog w = .ok (.agg #[.int .i64 x, .int .i64 0, .string t, .bool false]) w := by kernel_rfl
theorem own_empty4 {w : World} {base g : Nat} {T : TypeId} (h : w.heap[g]? = some (.cells #[] T (0, 0))) (hb : base ≤ g) : w.ownsRow base T 4 (.slice (some ⟨g, 0, none⟩) 0 0) 0 [] :=
  ⟨rfl, .inr ⟨g, 0, #[], rfl, hb, h, Nat.le_refl _, by decide, rfl, rfl⟩⟩
theorem four_newT {T : TypeId} (w : World) (f : Fr) {q : Nat} (h : w.heap[q]? = some (.cells #[.int .i64 f.frm, .int .i64 f.dst, .string f.bytes, .bool f.sp] T (0, 0))) : ∀ j u, (frC f)[j]? = some u → w.cell? ((⟨q, 0, none⟩ : Addr).add j) = some u := fun j u hj => by
  rw [Gn.add_row, cell_of_row _ _ j _ _ (0, 0) h]
  simpa [frC] using hj
/-- The network holds fs', the plain list fs; nothing that was there has turned. -/
structure PS (W0 : World) (b : Nat) (fs fs' : List Fr) (v : Value) (w : World) : Prop where
  net : NetAt b b fs' w
  row : w.ownsRow b 30 4 v fs.length (frsC fs)
  bel : Below W0.heap.size W0 w
  low : W0.heap.size ≤ b
/-- A list that may be. -/
structure Lst (fs : List Fr) : Prop where
  few : fs.length ≤ 1024
  siz : ∀ f ∈ fs, f.bytes.size ≤ 2000000
section
variable {W0 w w' : World} {b : Nat} {fs fs' fs2 : List Fr} {v v' : Value}
theorem own_nsep {e : TypeId} {size n : Nat} {xs : List Value} (h : w.ownsRow b e size v n xs) (he : e ≠ 35) (hn : NetAt b b fs' w) (he2 : e ≠ 26) (hs : NSep b b w w') : w'.ownsRow b e size v n xs := by
  refine ⟨h.1, ?_⟩
  rcases h.2 with h2 | ⟨g', cap, cur, h1, h2, hh, hrest⟩
  · exact .inl h2
  · refine .inr ⟨g', cap, cur, h1, h2, hs.block e g' _ _ he (fun hb => ?_) hh, hrest⟩
    obtain ⟨A, c, hx⟩ := hn
    subst hb
    rw [hx.box] at hh
    injection hh with hh
    injection hh with _ hh
    exact he2 hh.symm
theorem PS.below (h : PS W0 b fs fs' v w) (hb : Below w.heap.size w w') : PS W0 b fs fs' v w' :=
  ⟨h.net.below hb, own_below h.row hb, h.bel.trans (hb.mono h.bel.size), h.low⟩
theorem PS.drew (h : PS W0 b fs fs' v w) : PS W0 b fs fs' v w.drew := h.below (Gn.below_drew (Below.refl _ _))
/-- A deed of the network. -/
theorem PS.deed (h : PS W0 b fs fs' v w) (hn : NetAt b b fs2 w') (hs : NSep b b w w') : PS W0 b fs fs2 v w' :=
  ⟨hn, own_nsep h.row (by decide) h.net (by decide) hs, h.bel.trans (hs.below.mono h.low), h.low⟩
theorem PS.size (h : PS W0 b fs fs' v w) : b ≤ w.heap.size := Nat.le_of_lt h.net.lt.1
/-- A block of the law's own stands through a deed. -/
theorem PS.keeps (h : PS W0 b fs fs' v w) (hs : NSep b b w w') {T : TypeId} {k : Nat} {cs : Array Value} (hT : T ≠ 35) (hT2 : T ≠ 26) (hk : w.heap[k]? = some (.cells cs T (0, 0))) : w'.heap[k]? = some (.cells cs T (0, 0)) :=
  hs.block T k cs (0, 0) hT (fun hb => by
    obtain ⟨A, c, hx⟩ := h.net
    subst hb
    rw [hx.box] at hk
    injection hk with hk
    injection hk with _ hk
    exact hT2 hk.symm) hk
/-- A new row takes the list's place. -/
theorem PS.newRow (h : PS W0 b fs fs' v w) (hg : w.grownBy w' v.ownBlock) (ho : w'.ownsRow b 30 4 v' fs2.length (frsC fs2)) : PS W0 b fs2 fs' v' w' := by
  have hob := Gn.own_block h.row
  have hrow := h.row
  obtain ⟨g1, g2, g3, g4, g5⟩ := hg
  have key : ∀ (T : TypeId) (k : Nat) (cs : Array Value) (fr : Nat × Nat), T ≠ 30 → w.heap[k]? = some (.cells cs T fr) → w'.heap[k]? = some (.cells cs T fr) := fun T k cs fr hT hk => by
    refine (g5 k (Gn.heap_lt hk) (fun e => ?_)).trans hk
    rcases hrow.2 with ⟨h1, _⟩ | ⟨g', cp, cur, h1, _, h3, _⟩
    · rw [h1] at e; simp [Value.ownBlock] at e
    · rw [h1] at e
      simp [Value.ownBlock] at e
      subst e
      rw [h3] at hk
      injection hk with hk
      injection hk with _ hk
      exact hT hk.symm
  refine ⟨?_, ho, ⟨g1.trans h.bel.os, g2.trans h.bel.tape, g3.trans h.bel.output, Nat.le_trans h.bel.size g4, fun k hk => ?_⟩, h.low⟩
  · obtain ⟨A, c, hx⟩ := h.net
    refine ⟨A, c, key _ _ _ _ (by decide) hx.box, ⟨hx.row.1, ?_⟩, hx.bb⟩
    rcases hx.row.2 with h2 | ⟨g', cap, cur, h1, h2, hh, hrest⟩
    · exact .inl h2
    · exact .inr ⟨g', cap, cur, h1, h2, key _ _ _ _ (by decide) hh, hrest⟩
  · exact (g5 k (Nat.lt_of_lt_of_le hk h.bel.size) (fun e => by have := hob k e.symm; have := h.low; omega)).trans (h.bel.block k hk)
/-- The cells of a frame of the plain list. -/
theorem PS.get {A : Option Addr} {n cap : Nat} (h : PS W0 b fs fs' (.slice A n cap) w) (k : Nat) (hk : k < fs.length) :
    ∃ (g : Nat) (cur : Array Value), A = some ⟨g, 0, none⟩ ∧ w.heap[g]? = some (.cells cur 30 (0, 0)) ∧ b ≤ g ∧ n = fs.length ∧ fs.length ≤ cap ∧ cap ≤ maxLen ∧ cur.size = cap * 4 ∧ cur.toList.take (fs.length * 4) = frsC fs ∧ ∀ j, j < 4 → cur[k * 4 + j]? = (frC fs[k])[j]? := by
  rcases h.row.2 with ⟨_, h1⟩ | ⟨g, cp, cur, h1, h2, h3, h4, h5, h6, h7⟩
  · omega
  · injection h1 with e1 e2 e3
    subst e1 e3
    refine ⟨g, cur, rfl, h3, h2, e2, h4, h5, h6, h7, fun j hj => ?_⟩
    rw [← frsC_get fs k j hk hj, ← h7, List.getElem?_take_of_lt (by omega)]
    simp
end
theorem send_full {base b : Nat} {fs : List Fr} {w : World} (h : NetAt base b fs w) (x y : Int) (t : ByteArray) (hn : fs.length = 1024) (hb : base ≤ w.heap.size) :
    Calls Try.prog 6 #[.pointer (some ⟨b, 0, none⟩), .int .i64 x, .int .i64 y, .string t] w (fun e w' => e = .returned (.bool false) ∧ NetAt base b fs w' ∧ NSep base b w w') := by
  obtain ⟨A, cap, h⟩ := h
  refine (send_any h x y t (by omega) hb).mono ?_
  rintro e w' ⟨rfl, h1, h2⟩
  rw [if_neg (by omega)] at h1
  exact ⟨by rw [decide_eq_false (by omega)], h1, h2⟩
theorem src_take {w : World} {g m p : Nat} {cur : Array Value} {T : TypeId} (h : w.heap[g]? = some (.cells cur T (0, 0))) {fs : List Fr} (hct : cur.toList.take (m * 4) = frsC fs) (hp : p ≤ m) : ∀ j u, (frsC (fs.take p))[j]? = some u → w.cell? ((⟨g, 0, none⟩ : Addr).add j) = some u := fun j u hj => by
  rw [Gn.add_row, cell_of_row _ _ j _ _ (0, 0) h]
  rw [← frsC_take, ← hct, List.take_take, List.getElem?_take] at hj
  split at hj
  · simpa using hj
  · cases hj
theorem src_drop {g m p cap : Nat} {cur : Array Value} {T : TypeId} {fs : List Fr} (hct : cur.toList.take (m * 4) = frsC fs) (hm : m ≤ cap) : ∃ Ad : Addr, (if cap = p then some (⟨g, 0, none⟩ : Addr) else some ⟨g, p * 4, none⟩) = some Ad ∧ ∀ (w : World), w.heap[g]? = some (.cells cur T (0, 0)) → ∀ j u, (frsC (fs.drop p))[j]? = some u → w.cell? (Ad.add j) = some u := by
  refine ⟨if cap = p then ⟨g, 0, none⟩ else ⟨g, p * 4, none⟩, by split <;> rfl, fun w h j u hj => ?_⟩
  have hl : (frsC fs).length = min (m * 4) cur.toList.length := by rw [← hct, List.length_take]
  rw [← frsC_drop, List.getElem?_drop] at hj
  have hlt : p * 4 + j < (frsC fs).length := by
    rcases Nat.lt_or_ge (p * 4 + j) (frsC fs).length with h9 | h9
    · exact h9
    · rw [List.getElem?_eq_none h9] at hj; cases hj
  rw [if_neg (by omega), Addr.add_lit]
  show w.cell? _ = _
  rw [cell_of_row _ _ (p * 4 + j) _ _ (0, 0) h]
  rw [← hct, List.getElem?_take_of_lt (by omega)] at hj
  simpa using hj
theorem own_lower {w : World} {base base' : Nat} {e : TypeId} {size : Nat} {v : Value} {n : Nat} {xs : List Value} (h : w.ownsRow base e size v n xs) (hb : base' ≤ base) : w.ownsRow base' e size v n xs := by
  refine ⟨h.1, ?_⟩
  rcases h.2 with h2 | ⟨g', cap, cur, h1, h2, hrest⟩
  · exact .inl h2
  · exact .inr ⟨g', cap, cur, h1, by omega, hrest⟩
/-- A row of the call's own takes the list's place; nothing that was there has turned. -/
theorem PS.swap {W0 w w' : World} {b : Nat} {fs fs' fs2 : List Fr} {v v' : Value} (h : PS W0 b fs fs' v w) (hb : Below w.heap.size w w') (ho : w'.ownsRow w.heap.size 30 4 v' fs2.length (frsC fs2)) : PS W0 b fs2 fs' v' w' :=
  ⟨h.net.below hb, own_lower ho h.size, h.bel.trans (hb.mono h.bel.size), h.low⟩
theorem frsC_set4 (fs : List Fr) (p : Nat) (hp : p < fs.length) (f : Fr) : ((((frsC fs).set (p * 4) (.int .i64 f.frm)).set (p * 4 + 1) (.int .i64 f.dst)).set (p * 4 + 2) (.string f.bytes)).set (p * 4 + 3) (.bool f.sp) = frsC (fs.set p f) := by
  induction fs generalizing p with
  | nil => simp at hp
  | cons g l ih =>
    cases p with
    | zero => rfl
    | succ p =>
      have hp' : p < l.length := by simpa using hp
      rw [List.set_cons_succ, frsC_cons, frsC_cons, ← ih p hp']
      rw [List.set_append_right _ _ (by simp [frC]; omega), List.set_append_right _ _ (by simp [frC]; omega), List.set_append_right _ _ (by simp [frC]; omega), List.set_append_right _ _ (by simp [frC]; omega)]
      simp only [frC, List.length_cons, List.length_nil]
      rw [show (p + 1) * 4 - (0 + 1 + 1 + 1 + 1) = p * 4 by omega, show (p + 1) * 4 + 1 - (0 + 1 + 1 + 1 + 1) = p * 4 + 1 by omega, show (p + 1) * 4 + 2 - (0 + 1 + 1 + 1 + 1) = p * 4 + 2 by omega, show (p + 1) * 4 + 3 - (0 + 1 + 1 + 1 + 1) = p * 4 + 3 by omega]
def setA (w : World) (g o : Nat) (f : Fr) : World := (((w.setCell ⟨g, o, none⟩ (.int .i64 f.frm)).setCell ⟨g, o + 1, none⟩ (.int .i64 f.dst)).setCell ⟨g, o + 2, none⟩ (.string f.bytes)).setCell ⟨g, o + 3, none⟩ (.bool f.sp)
theorem setA_keep {w : World} {g k : Nat} (h : g ≠ k) (o : Nat) (f : Fr) : (setA w g o f).heap[k]? = w.heap[k]? :=
  (Gn.set_keep _ _ _ h).trans ((Gn.set_keep _ _ _ h).trans ((Gn.set_keep _ _ _ h).trans (Gn.set_keep _ _ _ h)))
/-- A frame of the plain list is another one. -/
theorem PS.spoil {W0 w : World} {b g m cap : Nat} {fs fs' : List Fr} (h : PS W0 b fs fs' (.slice (some ⟨g, 0, none⟩) m cap) w) (p : Nat) (hp : p < fs.length) (f : Fr) :
    PS W0 b (fs.set p f) fs' (.slice (some ⟨g, 0, none⟩) m cap) (setA w g (p * 4) f) := by
  have hrow := h.row
  rcases hrow.2 with ⟨h1, _⟩ | ⟨g', cp, cur, h1, h2, h3, h4, h5, h6, h7⟩
  · cases h1
  · injection h1 with e1 e2 e3
    injection e1 with e1
    injection e1 with e1
    subst e1 e3
    have far : ∀ (T : TypeId) (k : Nat) (cs : Array Value) (fr : Nat × Nat), T ≠ 30 → w.heap[k]? = some (.cells cs T fr) → (setA w g (p * 4) f).heap[k]? = some (.cells cs T fr) := fun T k cs fr hT hk => by
      refine (setA_keep (fun e => ?_) _ _).trans hk
      subst e
      rw [h3] at hk
      injection hk with hk
      injection hk with _ hk
      exact hT hk.symm
    refine ⟨?_, ⟨by rw [frsC_len], .inr ⟨g, cap, _, by rw [List.length_set, e2], h2, Gn.heap_set (Gn.heap_set (Gn.heap_set (Gn.heap_set h3 _ _) _ _) _ _) _ _, by rw [List.length_set]; exact h4, h5, by simp [h6], ?_⟩⟩, ?_, h.low⟩
    · obtain ⟨A, c, hx⟩ := h.net
      refine ⟨A, c, far _ _ _ _ (by decide) hx.box, ⟨hx.row.1, ?_⟩, hx.bb⟩
      rcases hx.row.2 with h2 | ⟨g', cap, cur, h1, h2, hh, hrest⟩
      · exact .inl h2
      · exact .inr ⟨g', cap, cur, h1, h2, far _ _ _ _ (by decide) hh, hrest⟩
    · rw [Array.toList_setIfInBounds, Array.toList_setIfInBounds, Array.toList_setIfInBounds, Array.toList_setIfInBounds, List.take_set, List.take_set, List.take_set, List.take_set, List.length_set, h7, frsC_set4 fs p hp]
    · have hl := h.low
      exact (((h.bel.setCell (p := ⟨g, p * 4, none⟩) (Nat.le_trans hl h2) _).setCell (p := ⟨g, p * 4 + 1, none⟩) (Nat.le_trans hl h2) _).setCell (p := ⟨g, p * 4 + 2, none⟩) (Nat.le_trans hl h2) _).setCell (p := ⟨g, p * 4 + 3, none⟩) (Nat.le_trans hl h2) _
theorem pl_zero (n : Nat) : plN 0 n = 0 := by simp [plN]
theorem drop_at {fs : List Fr} {k : Nat} (h : k < fs.length) : atF (fs.drop k) 0 = fs[k] := by
  rw [atF_some (p := 0) (by rw [pl_zero]) (by rw [List.length_drop]; omega)]
  simp
theorem drop_rem (fs : List Fr) (k : Nat) (n : Nat) : remF (fs.drop k) (plN 0 n) = fs.drop (k + 1) := by
  unfold remF
  rw [pl_zero, List.take_zero, List.nil_append, List.drop_drop]
theorem Lst.nil : Lst [] := ⟨by simp, by simp⟩
theorem Lst.add {fs : List Fr} (h : Lst fs) (hl : fs.length < 1024) {f : Fr} (hf : f.bytes.size ≤ 2000000) : Lst (fs ++ [f]) :=
  ⟨by simp; omega, fun x hx => by
    rcases List.mem_append.1 hx with h1 | h1
    · exact h.siz x h1
    · rw [List.mem_singleton] at h1; rw [h1]; exact hf⟩
theorem Lst.rem {fs : List Fr} (h : Lst fs) (p : Nat) : Lst (remF fs p) :=
  ⟨by unfold remF; rw [List.length_append, List.length_take, List.length_drop]; have := h.few; omega, fun x hx => by
    unfold remF at hx
    rcases List.mem_append.1 hx with h1 | h1
    · exact h.siz x (List.mem_of_mem_take h1)
    · exact h.siz x (List.mem_of_mem_drop h1)⟩
theorem spF_size (f : Fr) (a : Int) (v : Nat) : (spF f a v).1.bytes.size = f.bytes.size := by
  unfold spF
  split
  · rfl
  · split
    · rfl
    · exact spT_size _ _ _
theorem atF_mem {fs : List Fr} {i : Int} (h : 0 < fs.length) : atF fs i ∈ fs := by
  rw [atF_some rfl (plN_lt i h)]
  exact List.getElem_mem _
theorem Lst.spoil {fs : List Fr} (h : Lst fs) (i a : Int) (v : Nat) : Lst (spL fs i a v) := by
  refine ⟨by unfold spL; rw [List.length_set]; exact h.few, fun x hx => ?_⟩
  rcases Nat.eq_zero_or_pos fs.length with h0 | h0
  · rw [List.eq_nil_of_length_eq_zero h0] at hx; cases hx
  · unfold spL at hx
    rcases List.mem_or_eq_of_mem_set hx with h1 | h1
    · exact h.siz x h1
    · rw [h1, spF_size]; exact h.siz _ (atF_mem h0)
theorem spL_nil (i a : Int) (v : Nat) : spL [] i a v = [] ∧ spB [] i a v = false := ⟨rfl, rfl⟩
def fillL (k : Nat) : List Fr := (List.range k).map fun (i : Nat) => ⟨(i : Int), 0, ⟨#[120]⟩, false⟩
theorem fillL_len (k : Nat) : (fillL k).length = k := by simp [fillL]
theorem fillL_succ (k : Nat) : fillL (k + 1) = fillL k ++ [⟨(k : Int), 0, ⟨#[120]⟩, false⟩] := by simp [fillL, List.range_succ]
theorem fillL_lst (k : Nat) (hk : k ≤ 1022) : Lst (fillL k) := ⟨by rw [fillL_len]; omega, fun f hf => by
  obtain ⟨i, _, rfl⟩ := List.mem_map.1 hf
  show (1 : Nat) ≤ 2000000
  omega⟩
/-- The remainder by six, from 0 on. -/
theorem six (q : Int) : 0 ≤ (q.tmod 6 + 6).tmod 6 ∧ (q.tmod 6 + 6).tmod 6 < 6 ∧ -6 < q.tmod 6 ∧ q.tmod 6 < 6 := by
  have h1 : q.tmod 6 < 6 := Int.tmod_lt_of_pos q (by decide)
  have h2 : -6 < q.tmod 6 := by
    have := Int.lt_tmod_of_pos q (show (0 : Int) < 6 by decide)
    omega
  refine ⟨Int.tmod_nonneg _ (by omega), Int.tmod_lt_of_pos _ (by decide), h2, h1⟩
end Go.Proofs.Ytdkigbaodbkebaa.Nt
