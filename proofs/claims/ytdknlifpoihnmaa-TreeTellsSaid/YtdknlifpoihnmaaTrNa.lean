/-
  Layer 14: the document's Next.
  Layer 14: a grammar's productions.
-/
import Derived.Test.YtdknlifpoihnmaaTrThere
import Derived.Test.YtdknlifpoihnmaaTrRSame
import Derived.Test.YtdknlifpoihnmaaOctRefGet

namespace Go.Proofs.Ytdknlifpoihnmaa.Tr
open Go.RowKit
open Gn (Asks Sep)
open Oct (gb bs three rget_any)
open Fx (IntsAt StrsAt Prd PG PrdsAt PgAt own_of_block own_base cells2 cells2_at)
set_option maxRecDepth 100000
set_option linter.unusedSimpArgs false
set_option linter.unusedVariables false

/-- The reader's state in memory. -/
structure NxAt (Q : Nat → Prop) (W : World) (k : Nat) (g : PG) (An At_ Ap : Option Addr) (cn ct cp : Nat) (B : ByteArray) (a nd : Nat) (E : Int) : Prop where
  box : W.heap[k]? = some (.cells #[.string B, .int .i64 a, .int .i64 nd, .int .i64 E] 107 (0, 0))
  pg : PgAt Q W g (.agg #[.int .i64 g.start, .int .i64 g.rules, .slice An g.names.length cn, .slice At_ g.terms.length ct, .slice Ap g.prods.length cp])
  far : ∀ r, Q r → r ≠ k
section
variable {Q : Nat → Prop} {W W' : World} {k : Nat} {g : PG} {An At_ Ap : Option Addr} {cn ct cp : Nat} {B : ByteArray} {a nd a' nd' : Nat} {E E' : Int}
theorem NxAt.under (h : NxAt Q W k g An At_ Ap cn ct cp B a nd E) (b : Below W.heap.size W W') : NxAt Q W' k g An At_ Ap cn ct cp B a nd E :=
  ⟨(b.block _ (Gn.heap_lt h.box)).trans h.box, h.pg.under b, h.far⟩
theorem NxAt.sep (h : NxAt Q W k g An At_ Ap cn ct cp B a nd E) (s : Sep k W.heap.size W W') (hb : W'.heap[k]? = some (.cells #[.string B, .int .i64 a', .int .i64 nd', .int .i64 E'] 107 (0, 0))) : NxAt Q W' k g An At_ Ap cn ct cp B a' nd' E' :=
  ⟨hb, h.pg.keep s.size (fun r hq hr => ⟨hq, fun j => Gn.cell_same (s.block r hr (h.far r hq)) j⟩), h.far⟩
end
def NxEnd (Q : Nat → Prop) (w' : World) (k : Nat) (g : PG) (An At_ Ap : Option Addr) (cn ct cp : Nat) (B : ByteArray) (nd : Nat) (t' : Tr) (R : TRes) : Prop :=
  match R with
  | .error c => ∃ a' nd' : Nat, c ≠ 0 ∧ NxAt Q w' k g An At_ Ap cn ct cp B a' nd' (c : Int)
  | .ok (t, s', nd') => ∃ a' : Nat, t = t' ∧ s' = (bs B).drop a' ∧ a' ≤ B.size ∧ nd < nd' ∧ nd' ≤ a' ∧ NxAt Q w' k g An At_ Ap cn ct cp B a' nd' 0
def NxOut (Q : Nat → Prop) (W : World) (k : Nat) (g : PG) (An At_ Ap : Option Addr) (cn ct cp : Nat) (B : ByteArray) (nd : Nat) (R : TRes) (e : Ending) (w' : World) : Prop :=
  ∃ (t' : Tr) (n : Int) (A : Option Addr) (m c : Nat), e = .returned (.agg #[.int .i64 n, .slice A m c]) ∧ TrAt (fun r => W.heap.size ≤ r) w' t' (.int .i64 n) (.slice A m c) ∧ Sep k W.heap.size W w' ∧ NxEnd Q w' k g An At_ Ap cn ct cp B nd t' R
def wantO : Option Int → Int
  | none => 0
  | some y => y
def NextCtr (g : PG) (f : Nat) : Prop := ∀ (Q : Nat → Prop) (W : World) (k : Nat) (An At_ Ap : Option Addr) (cn ct cp : Nat) (B : ByteArray) (a nd : Nat), nd ≤ a → a ≤ B.size → B.size ≤ 500 → 65537 ≤ f + nd → NxAt Q W k g An At_ Ap cn ct cp B a nd 0 → (∀ r, Q r → r < W.heap.size) → ∀ o : Option Int,
  Calls Try.prog 50 #[.agg #[.int .i64 g.start, .int .i64 g.rules, .slice An g.names.length cn, .slice At_ g.terms.length ct, .slice Ap g.prods.length cp], .pointer (some ⟨k, 0, none⟩), .int .i64 (wantO o), .bool o.isSome] W (NxOut Q W k g An At_ Ap cn ct cp B nd (treeR g f o ((bs B).drop a) nd))
theorem tr_zero (P : Nat → Prop) (W : World) : TrAt P W (.mk 0 []) (.int .i64 0) (.slice none 0 0) :=
  .mk 0 [] none 0 0 (fun _ => .bool false) (fun _ => .bool false) (fun h => absurd h (by simp)) (Nat.le_refl _) (fun i h => absurd h (by simp)) (fun i h => absurd h (by simp))
theorem nx_fail {Q : Nat → Prop} {W w : World} {k : Nat} {g : PG} {An At_ Ap : Option Addr} {cn ct cp : Nat} {B : ByteArray} {a nd cc : Nat} {ci : Int} {R : TRes} (hk : k < W.heap.size) (h : NxAt Q w k g An At_ Ap cn ct cp B a nd 0) (hs : Sep k W.heap.size W w)
    (hres : w.heap[W.heap.size + 1]? = some (.cells #[.int .i64 0, .slice none 0 0] 43 (0, 0))) (hold : ∀ r, Q r → r < W.heap.size) (hR : R = .error cc) (hc : cc ≠ 0) (hci : ci = (cc : Int)) :
    NxOut Q W k g An At_ Ap cn ct cp B nd R (.returned (.agg #[.int .i64 0, .slice none 0 0])) (((w.setCell ⟨k, 3, none⟩ (.int .i64 ci)).setCell ⟨W.heap.size + 1, 0, none⟩ (.int .i64 0)).setCell ⟨W.heap.size + 1, 1, none⟩ (.slice none 0 0)) ∧
    (((w.setCell ⟨k, 3, none⟩ (.int .i64 ci)).setCell ⟨W.heap.size + 1, 0, none⟩ (.int .i64 0)).setCell ⟨W.heap.size + 1, 1, none⟩ (.slice none 0 0)).heap[W.heap.size + 1]? = some (.cells #[.int .i64 0, .slice none 0 0] 43 (0, 0)) := by
  subst hR hci
  have hb := Gn.heap_set h.box 3 (.int .i64 (cc : Int))
  have hr := (Gn.set_keep w 3 (.int .i64 (cc : Int)) (show k ≠ W.heap.size + 1 by omega)).trans hres
  have h2 := fun b (hb : W.heap.size + 1 ≠ b) => (Gn.set_keep ((w.setCell ⟨k, 3, none⟩ (.int .i64 (cc : Int))).setCell ⟨W.heap.size + 1, 0, none⟩ (.int .i64 0)) 1 (.slice none 0 0) hb).trans (Gn.set_keep (w.setCell ⟨k, 3, none⟩ (.int .i64 (cc : Int))) 0 (.int .i64 0) hb)
  refine ⟨⟨.mk 0 [], 0, none, 0, 0, rfl, tr_zero _ _, ((hs.setCell (.inl rfl) _).setCell (.inr (by simp)) _).setCell (.inr (by simp)) _, a, nd, hc, ⟨(h2 k (by omega)).trans hb, h.pg.keep (by simp [World.setCell]) (fun r hr _ => ⟨hr, fun j => Gn.cell_same ((h2 r (by have := hold r hr; omega)).trans (Gn.set_keep w 3 _ (by have := h.far r hr; omega))) j⟩), h.far⟩⟩, res_set hr _ _⟩
/-- Within Next's loop. -/
structure KX (Q : Nat → Prop) (W0 : World) (tb k : Nat) (g : PG) (An At_ Ap : Option Addr) (cn ct cp : Nat) (n : Int) (ys : List Int) (uv : Value) (A : Option Addr) (c : Nat) (acc : List Tr) (B : ByteArray) (a nd : Nat) (E : Int) (W : World) : Prop where
  rd : NxAt Q W k g An At_ Ap cn ct cp B a nd E
  gb : W.heap[W0.heap.size]? = some (.cells #[.int .i64 g.start, .int .i64 g.rules, .slice An g.names.length cn, .slice At_ g.terms.length ct, .slice Ap g.prods.length cp] 34 (0, 0))
  res : W.heap[W0.heap.size + 1]? = some (.cells #[.int .i64 0, .slice none 0 0] 43 (0, 0))
  box : W.heap[tb]? = some (.cells #[.int .i64 n, .slice A acc.length c] 43 (0, 0))
  items : DItems (tb + 1) W A c acc
  side : IntsAt Q W ys uv
  sep : Sep k W0.heap.size W0 W
  lts : k < W0.heap.size ∧ W0.heap.size + 1 < tb
  old : ∀ r, Q r → r < W0.heap.size
section
variable {Q : Nat → Prop} {W0 W W' : World} {tb k : Nat} {g : PG} {An At_ Ap : Option Addr} {cn ct cp : Nat} {n : Int} {ys : List Int} {uv : Value} {A : Option Addr} {c : Nat} {acc : List Tr} {B : ByteArray} {a nd a' nd' : Nat} {E E' : Int}
theorem KX.call (h : KX Q W0 tb k g An At_ Ap cn ct cp n ys uv A c acc B a nd E W) (s : Sep k W.heap.size W W') (r : NxAt Q W' k g An At_ Ap cn ct cp B a' nd' E') : KX Q W0 tb k g An At_ Ap cn ct cp n ys uv A c acc B a' nd' E' W' := by
  obtain ⟨l1, l2⟩ := h.lts
  exact ⟨r, (s.block _ (Gn.heap_lt h.gb) (by omega)).trans h.gb, (s.block _ (Gn.heap_lt h.res) (by omega)).trans h.res, (s.block _ (Gn.heap_lt h.box) (by omega)).trans h.box, h.items.keep s.size (fun q hq hr => s.block q hr (by omega)), h.side.keep s.size (fun r hq hr => ⟨hq, fun j => Gn.cell_same (s.block r hr (h.rd.far r hq)) j⟩), h.sep.trans (s.mono h.sep.size), ⟨l1, l2⟩, h.old⟩
theorem KX.snoc {w4 : World} {lo gq c' : Nat} {t : Tr} {x y : Value} {o : Obj} (h : KX Q W0 tb k g An At_ Ap cn ct cp n ys uv A c acc B a nd E W) (hlo : tb + 1 ≤ lo) (hown : ∀ k, (Value.slice A acc.length c).ownBlock = some k → k < lo) (hn : TrAt (fun r => lo ≤ r) W t x y)
    (hown4 : ∀ vs : List (Value × Value), W.ownsRow (tb + 1) 43 2 (.slice A acc.length c) acc.length (cells2 vs) → w4.ownsRow (tb + 1) 43 2 (.slice (some ⟨gq, 0, none⟩) (acc.length + 1) c') (acc.length + 1) (cells2 vs ++ [x, y]))
    (hg : (W.alloc o).grownBy w4 (Value.slice A acc.length c).ownBlock) (hat : (Value.slice A acc.length c).ownBlock = some gq ∨ gq = (W.alloc o).heap.size) :
    w4.heap[tb]? = some (.cells #[.int .i64 n, .slice A acc.length c] 43 (0, 0)) ∧ KX Q W0 tb k g An At_ Ap cn ct cp n ys uv (some ⟨gq, 0, none⟩) c' (acc ++ [t]) B a nd E (w4.setCell ⟨tb, 1, none⟩ (.slice (some ⟨gq, 0, none⟩) (acc.length + 1) c')) := by
  obtain ⟨l1, l2⟩ := h.lts
  have hb := h.items.own_lt
  obtain ⟨A2, c2, hv, hit⟩ := h.items.snoc hlo hown hn hown4 hg (hat.elim (fun h => .inl (by rw [h]; rfl)) (fun h => .inr (by subst h; rfl)))
  injection hv with e1 _ e2
  subst e1
  subst e2
  have keep : ∀ q, q < W.heap.size → q ≤ tb → w4.heap[q]? = W.heap[q]? := fun q hq hq2 =>
    (hg.block q (by simp; omega) (fun e => by have := (hb q e.symm).2; omega)).trans (heap_alloc_old W o hq)
  have hlb := Gn.heap_lt h.box
  have hsz : W.heap.size + 1 ≤ w4.heap.size := by have := hg.size; simp at this; omega
  have hb4 := (keep tb hlb (Nat.le_refl _)).trans h.box
  have hset : ∀ q, tb ≠ q → (w4.setCell ⟨tb, 1, none⟩ (.slice (some ⟨gq, 0, none⟩) (acc.length + 1) c')).heap[q]? = w4.heap[q]? := fun q hq => Gn.set_keep w4 1 _ hq
  have hszs : (w4.setCell ⟨tb, 1, none⟩ (.slice (some ⟨gq, 0, none⟩) (acc.length + 1) c')).heap.size = w4.heap.size := by simp [World.setCell]
  have hsep : Sep k W0.heap.size W0 w4 := h.sep.trans ⟨hg.os, hg.tape, hg.output, by omega, fun q hq _ => keep q (by have := h.sep.size; omega) (by omega)⟩
  have hQk : ∀ r, Q r → (w4.setCell ⟨tb, 1, none⟩ (.slice (some ⟨gq, 0, none⟩) (acc.length + 1) c')).heap[r]? = W.heap[r]? := fun r hr => by
    have := h.old r hr
    have := h.sep.size
    exact (hset r (by omega)).trans (keep r (by omega) (by omega))
  refine ⟨hb4, ⟨((hset k (by omega)).trans (keep k (Gn.heap_lt h.rd.box) (by omega))).trans h.rd.box, h.rd.pg.keep (by rw [hszs]; omega) (fun r hr _ => ⟨hr, fun j => Gn.cell_same (hQk r hr) j⟩), h.rd.far⟩, ((hset _ (by omega)).trans (keep _ (Gn.heap_lt h.gb) (by omega))).trans h.gb, ((hset _ (by omega)).trans (keep _ (Gn.heap_lt h.res) (by omega))).trans h.res, ?_, ?_, h.side.keep (by rw [hszs]; omega) (fun r hr _ => ⟨hr, fun j => Gn.cell_same (hQk r hr) j⟩), hsep.setCell (.inr (by simp; omega)) _, ⟨l1, l2⟩, h.old⟩
  · have := Gn.heap_set hb4 1 (.slice (some ⟨gq, 0, none⟩) (acc.length + 1) c')
    rw [show (acc ++ [t]).length = acc.length + 1 by simp]
    exact this
  · exact hit.keep (by rw [hszs]; exact Nat.le_refl _) fun q hq _ => hset q (by omega)
/-- Where the loop stands against what is to come of it. -/
def Stage (g : PG) (f : Nat) (ys : List Int) (B : ByteArray) (nd0 : Nat) (K : Except Nat (List Tr × List UInt8 × Nat)) (q : Nat) (acc : List Tr) (a nd : Nat) (E : Int) : Prop :=
  (E = 0 ∧ kidsG (fun y => treeR g f (some y)) acc (ys.drop q) ((bs B).drop a) nd = K ∧ nd ≤ a ∧ a ≤ B.size ∧ nd0 < nd) ∨ ∃ ec : Nat, ec ≠ 0 ∧ E = (ec : Int) ∧ K = .error ec
theorem nx_done {f : Nat} {nd0 : Nat} {K : Except Nat (List Tr × List UInt8 × Nat)} (h : KX Q W0 tb k g An At_ Ap cn ct cp n ys uv A c acc B a nd E W) (hs : Stage g f ys B nd0 K ys.length acc a nd E) :
    NxOut Q W0 k g An At_ Ap cn ct cp B nd0 (wrapK n K) (.returned (.agg #[.int .i64 n, .slice A acc.length c])) ((W.setCell ⟨W0.heap.size + 1, 0, none⟩ (.int .i64 n)).setCell ⟨W0.heap.size + 1, 1, none⟩ (.slice A acc.length c)) := by
  obtain ⟨l1, l2⟩ := h.lts
  have hk2 : ∀ b, W0.heap.size + 1 ≠ b → ((W.setCell ⟨W0.heap.size + 1, 0, none⟩ (.int .i64 n)).setCell ⟨W0.heap.size + 1, 1, none⟩ (.slice A acc.length c)).heap[b]? = W.heap[b]? := fun b hb => (Gn.set_keep _ 1 _ hb).trans (Gn.set_keep _ 0 _ hb)
  have hsz2 : ((W.setCell ⟨W0.heap.size + 1, 0, none⟩ (.int .i64 n)).setCell ⟨W0.heap.size + 1, 1, none⟩ (.slice A acc.length c)).heap.size = W.heap.size := by simp [World.setCell]
  have hn : NxAt Q ((W.setCell ⟨W0.heap.size + 1, 0, none⟩ (.int .i64 n)).setCell ⟨W0.heap.size + 1, 1, none⟩ (.slice A acc.length c)) k g An At_ Ap cn ct cp B a nd E := ⟨(hk2 k (by omega)).trans h.rd.box, h.rd.pg.keep (by rw [hsz2]; exact Nat.le_refl _) (fun r hr _ => ⟨hr, fun j => Gn.cell_same (hk2 r (by have := h.old r hr; omega)) j⟩), h.rd.far⟩
  refine ⟨.mk n acc, n, A, acc.length, c, rfl, (h.items.trs.tree n).keep (by rw [hsz2]; exact Nat.le_refl _) (fun r hr _ => ⟨by omega, fun j => Gn.cell_same (hk2 r (by omega)) j⟩), (h.sep.setCell (.inr (by simp)) _).setCell (.inr (by simp)) _, ?_⟩
  rcases hs with ⟨rfl, hk, h1, h2, h3⟩ | ⟨ec, h1, rfl, rfl⟩
  · rw [List.drop_length, kidsG] at hk
    subst hk
    exact ⟨a, rfl, rfl, h2, h3, h1, hn⟩
  · exact ⟨a, nd, h1, hn⟩
end
set_option maxHeartbeats 4000000 in
/-- Behind an error Next tells nothing. -/
theorem next_bad (Q : Nat → Prop) (W : World) (k : Nat) (g : PG) (An At_ Ap : Option Addr) (cn ct cp : Nat) (B : ByteArray) (a nd : Nat) (E : Int) (hE : E ≠ 0) (h : NxAt Q W k g An At_ Ap cn ct cp B a nd E) (y : Int) (i : Bool) :
    Calls Try.prog 50 #[.agg #[.int .i64 g.start, .int .i64 g.rules, .slice An g.names.length cn, .slice At_ g.terms.length ct, .slice Ap g.prods.length cp], .pointer (some ⟨k, 0, none⟩), .int .i64 y, .bool i] W fun e w' => e = .returned (.agg #[.int .i64 0, .slice none 0 0]) ∧ Below W.heap.size W w' := by
  obtain ⟨V, hV⟩ : ∃ V, V = (W.alloc (.cells #[.int .i64 g.start, .int .i64 g.rules, .slice An g.names.length cn, .slice At_ g.terms.length ct, .slice Ap g.prods.length cp] 34)).alloc (.cells #[.int .i64 0, .slice none 0 0] 43) := ⟨_, rfl⟩
  have hb0 : Below W.heap.size W V := by rw [hV]; exact ((Below.refl _ W).alloc (Nat.le_refl _) _).alloc (by simp) _
  have hx1 : V.heap[W.heap.size + 1]? = some (.cells #[.int .i64 0, .slice none 0 0] 43 (0, 0)) := by
    rw [hV]; have := heap_alloc_new (W.alloc (.cells #[.int .i64 g.start, .int .i64 g.rules, .slice An g.names.length cn, .slice At_ g.terms.length ct, .slice Ap g.prods.length cp] 34)) (.cells #[.int .i64 0, .slice none 0 0] 43); simpa using this
  have c3 := cell_of_row _ _ 3 _ _ (0, 0) (h.under hb0).box
  have e1 : (E != 0) = true := by rw [bne_iff_ne]; exact hE
  have HV := Lib.hid hV
  have HB0 := Lib.hid hb0
  have r0 := cell_of_row _ _ 0 _ _ (0, 0) hx1
  have r1 := cell_of_row _ _ 1 _ _ (0, 0) hx1
  have rf0 := Gn.frozen_row hx1 0
  have rf1 := Gn.frozen_row hx1 1
  have HRS := Lib.hid (res_set hx1 (.int .i64 0) (.slice none 0 0))
  clear h hV hb0 hx1
  go_enter Try.func50, Try.ntmps50
  go_upto_region 1 with fail
  rw [← HV.out]
  go_wp2_with fail
  exact bodyPost_ret (results_cell_row rfl _ _ (W.heap.size + 1) 43 _ (0, 0) _ rfl HRS.out Try.underlying43 rfl rfl) rfl ⟨rfl, (HB0.out.setCell (by simp) _).setCell (by simp) _⟩
/-- What a call for the next kid leaves. -/
def StepOut (Q : Nat → Prop) (W : World) (k : Nat) (g : PG) (An At_ Ap : Option Addr) (cn ct cp : Nat) (f : Nat) (ys : List Int) (B : ByteArray) (nd0 : Nat) (K : Except Nat (List Tr × List UInt8 × Nat)) (q : Nat) (acc : List Tr) (e : Ending) (w' : World) : Prop :=
  ∃ (t5 : Tr) (n5 : Int) (A5 : Option Addr) (m5 c5 a5 nd5 : Nat) (E5 : Int), e = .returned (.agg #[.int .i64 n5, .slice A5 m5 c5]) ∧ TrAt (fun r => W.heap.size ≤ r) w' t5 (.int .i64 n5) (.slice A5 m5 c5) ∧ Sep k W.heap.size W w' ∧ NxAt Q w' k g An At_ Ap cn ct cp B a5 nd5 E5 ∧ Stage g f ys B nd0 K (q + 1) (acc ++ [t5]) a5 nd5 E5
theorem next_step {g : PG} {f : Nat} (IH : NextCtr g f) {Q : Nat → Prop} {W W0 : World} {tb k : Nat} {An At_ Ap : Option Addr} {cn ct cp : Nat} {n : Int} {ys : List Int} {uv : Value} {A : Option Addr} {c : Nat} {acc : List Tr} {B : ByteArray} {a nd : Nat} {E : Int} {nd0 q : Nat} {K : Except Nat (List Tr × List UInt8 × Nat)}
    (h : KX Q W0 tb k g An At_ Ap cn ct cp n ys uv A c acc B a nd E W) (hs : Stage g f ys B nd0 K q acc a nd E) (hB : B.size ≤ 500) (hfu : 65537 ≤ f + 1 + nd0) (hq : q < ys.length) (X : World) (hX : Below W.heap.size W X) :
    Calls Try.prog 50 #[.agg #[.int .i64 g.start, .int .i64 g.rules, .slice An g.names.length cn, .slice At_ g.terms.length ct, .slice Ap g.prods.length cp], .pointer (some ⟨k, 0, none⟩), .int .i64 ys[q], .bool true] X (StepOut Q W k g An At_ Ap cn ct cp f ys B nd0 K q acc) := by
  have hr := h.rd.under hX
  have hxs := hX.size
  rcases hs with ⟨rfl, hk, h1, h2, h3⟩ | ⟨ec, h1, rfl, rfl⟩
  · refine (IH Q X k An At_ Ap cn ct cp B a nd h1 h2 hB (by omega) hr (fun r hr => by have := h.old r hr; have := h.sep.size; omega) (some ys[q])).mono ?_
    rintro e w' ⟨t', n5, A5, m5, c5, rfl, ht, hsp, hend⟩
    have ht2 : TrAt (fun r => W.heap.size ≤ r) w' t' (.int .i64 n5) (.slice A5 m5 c5) := ht.keep (Nat.le_refl _) fun r hr _ => ⟨by omega, fun _ => rfl⟩
    have hsp2 : Sep k W.heap.size W w' := (Sep.of_below (g := k) hX).trans (hsp.mono hxs)
    rw [List.drop_eq_getElem_cons hq, kidsG] at hk
    cases hT : treeR g f (some ys[q]) ((bs B).drop a) nd with
    | error ec =>
      rw [hT] at hk hend
      obtain ⟨a', nd', h5, h6⟩ := hend
      exact ⟨t', n5, A5, m5, c5, a', nd', _, rfl, ht2, hsp2, h6, .inr ⟨ec, h5, rfl, hk.symm⟩⟩
    | ok p =>
      obtain ⟨t, s', nd'⟩ := p
      rw [hT] at hk hend
      obtain ⟨a', rfl, rfl, h5, h6, h7, h8⟩ := hend
      exact ⟨t, n5, A5, m5, c5, a', nd', 0, rfl, ht2, hsp2, h8, .inl ⟨rfl, hk, h7, h5, by omega⟩⟩
  · refine (next_bad Q X k g An At_ Ap cn ct cp B a nd ec (by omega) hr _ _).mono ?_
    rintro e w' ⟨rfl, hb⟩
    exact ⟨.mk 0 [], 0, none, 0, 0, a, nd, ec, rfl, tr_zero _ _, (Sep.of_below (g := k) hX).trans ((Sep.of_below (g := k) hb).mono hxs), hr.under hb, .inr ⟨ec, h1, rfl, rfl⟩⟩
end Go.Proofs.Ytdknlifpoihnmaa.Tr

namespace Go.Proofs.Ytdknlifpoihnmaa.Tr
open Go.RowKit
open Fx (PG PgAt PrdsAt)
theorem prods4 {Q : Nat → Prop} {W : World} {g : PG} {An At_ Ap : Option Addr} {cn ct cp : Nat} (h : PgAt Q W g (.agg #[.int .i64 g.start, .int .i64 g.rules, .slice An g.names.length cn, .slice At_ g.terms.length ct, .slice Ap g.prods.length cp])) : PrdsAt Q W g.prods (.slice Ap g.prods.length cp) := by
  obtain ⟨vn, vt, vp, e, _, _, h4⟩ := h
  simp at e
  obtain ⟨_, _, e3⟩ := e
  rw [e3]
  exact h4
end Go.Proofs.Ytdknlifpoihnmaa.Tr
