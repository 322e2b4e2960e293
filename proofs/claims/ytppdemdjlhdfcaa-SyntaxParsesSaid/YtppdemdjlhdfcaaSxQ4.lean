/-
  The plain parser's Parse: what the plain parse of a list of tokens comes to, way by way; the state within its loop.
  The walk of the plain parser's Parse.
  The plain parser's Parse: small facts for its walk.
  The walk of the plain parser's Parse.
-/
import Derived.Test.YtppdemdjlhdfcaaSxQ2
import Derived.Test.YtppdemdjlhdfcaaLxRefScan2
import Derived.Test.YtppdemdjlhdfcaaSxQ3

namespace Go.Proofs.Ytppdemdjlhdfcaa.Sx
open Go.RowKit
open Lx (Tk Toks heap_lt own_block bs)
set_option maxRecDepth 100000

theorem need_short {ts : List Tk} (hn : ts.length ≤ 4096) (i : Nat) (c : UInt8) : need ts i c = if isSg ts i c = true then .ok () (i + 1) else .bad ts i 2 := by unfold need; rw [tak_short hn]
theorem nam_short {ts : List Tk} (hn : ts.length ≤ 4096) (i : Nat) : nam ts i = if (tkAt ts i).kind = 1 then .ok (tkAt ts i).text (i + 1) else .bad ts i 2 := by unfold nam; rw [tak_short hn]
theorem rule_ways {ts : List Tk} (hn : ts.length ≤ 4096) {f i : Nat} {R : Res Rul} (h : pRule ts f i = some R) :
    ((tkAt ts i).kind ≠ 1 ∧ R = .bad ts i 2) ∨ ((tkAt ts i).kind = 1 ∧ ((isSg ts (i + 1) 58 = false ∧ R = .bad ts (i + 1) 2) ∨ (isSg ts (i + 1) 58 = true ∧
      ((∃ l c k, pAlt ts f 0 (i + 1 + 1) = some (.no l c k) ∧ R = .no l c k) ∨ ∃ t m, pAlt ts f 0 (i + 1 + 1) = some (.ok t m) ∧ ((isSg ts m 59 = false ∧ R = .bad ts m 2) ∨ (isSg ts m 59 = true ∧ R = .ok ((tkAt ts i).text, t) (m + 1))))))) := by
  unfold pRule at h
  rw [nam_short hn] at h
  by_cases hk : (tkAt ts i).kind = 1
  · rw [if_pos hk] at h
    refine .inr ⟨hk, ?_⟩
    have h1 : ((need ts (i + 1) 58).bind fun _ k => (pAlt ts f 0 k).bind fun r => r.bind fun t m => (need ts m 59).bind fun _ o => some (.ok ((tkAt ts i).text, t) o)) = some R := h
    rw [need_short hn] at h1
    cases hs : isSg ts (i + 1) 58
    · rw [hs, if_neg (by decide)] at h1
      have h2 : some (Res.bad ts (i + 1) 2) = some R := h1
      injection h2 with h2
      exact .inl ⟨rfl, h2.symm⟩
    · rw [hs, if_pos rfl] at h1
      have h2 : ((pAlt ts f 0 (i + 1 + 1)).bind fun r => r.bind fun t m => (need ts m 59).bind fun _ o => some (.ok ((tkAt ts i).text, t) o)) = some R := h1
      refine .inr ⟨rfl, ?_⟩
      rcases bind_some h2 with ⟨l, e, q, h3, rfl⟩ | ⟨t, k, h3, h4⟩
      · exact .inl ⟨l, e, q, h3, rfl⟩
      · refine .inr ⟨t, k, h3, ?_⟩
        rw [need_short hn] at h4
        cases hs2 : isSg ts k 59
        · rw [hs2, if_neg (by decide)] at h4
          have h5 : some (Res.bad ts k 2) = some R := h4
          injection h5 with h5
          exact .inl ⟨rfl, h5.symm⟩
        · rw [hs2, if_pos rfl] at h4
          have h5 : some (Res.ok ((tkAt ts i).text, t) (k + 1)) = some R := h4
          injection h5 with h5
          exact .inr ⟨rfl, h5.symm⟩
  · rw [if_neg hk] at h
    have h2 : some (Res.bad ts i 2) = some R := h
    injection h2 with h2
    exact .inl ⟨hk, h2.symm⟩
theorem rules_ways {ts : List Tk} {f i : Nat} {acc : List Rul} {RR : Res (List Rul)} (h : pRules ts f i acc = some RR) : ∃ f', f = f' + 1 ∧
    ((0 < acc.length ∧ (tkAt ts i).kind = 4 ∧ RR = .ok acc i) ∨ (¬ (0 < acc.length ∧ (tkAt ts i).kind = 4) ∧ ((acc.length = 64 ∧ (tkAt ts i).kind = 1 ∧ RR = .bad ts i 6) ∨ (¬ (acc.length = 64 ∧ (tkAt ts i).kind = 1) ∧
      ((∃ l c k, pRule ts f' i = some (.no l c k) ∧ RR = .no l c k) ∨ ∃ v j, pRule ts f' i = some (.ok v j) ∧ pRules ts f' j (acc ++ [v]) = some RR))))) := by
  cases f with
  | zero => simp [pRules] at h
  | succ f =>
    refine ⟨f, rfl, ?_⟩
    rw [pRules] at h
    by_cases h1 : acc.length = 0 ∨ (tkAt ts i).kind ≠ 4
    · rw [if_pos h1] at h
      refine .inr ⟨fun h2 => ?_, ?_⟩
      · rcases h1 with h1 | h1
        · omega
        · exact h1 h2.2
      · by_cases h3 : acc.length = 64 ∧ (tkAt ts i).kind = 1
        · rw [if_pos h3] at h
          injection h with h
          exact .inl ⟨h3.1, h3.2, h.symm⟩
        · rw [if_neg h3] at h
          refine .inr ⟨h3, ?_⟩
          rcases bind_some h with ⟨l, e, q, h4, rfl⟩ | ⟨t, k, h4, h5⟩
          · exact .inl ⟨l, e, q, h4, rfl⟩
          · exact .inr ⟨t, k, h4, h5⟩
    · rw [if_neg h1] at h
      injection h with h
      refine .inl ⟨by omega, by omega, h.symm⟩
/-- The grammar of a start, which may be none, and of the rules. -/
def fin (tx : List UInt8) : Res (List Rul) → Res Gram
  | .no l c k => .no l c k
  | .ok rs m => .ok ⟨if tx = [] then (rs.headD ([], .node 0 [] [])).1 else tx, rs⟩ m
theorem fin_bind (tx : List UInt8) (x : Option (Res (List Rul))) (R : Res Gram) (h : (x.bind fun r => r.bind fun rs m => some (.ok (Gram.mk (if tx = [] then (rs.headD ([], .node 0 [] [])).1 else tx) rs) m)) = some R) : ∃ RR, x = some RR ∧ R = fin tx RR := by
  rcases bind_some h with ⟨l, e, q, h1, rfl⟩ | ⟨t, k, h1, h2⟩
  · exact ⟨_, h1, rfl⟩
  · refine ⟨_, h1, ?_⟩
    injection h2 with h2
    exact h2.symm
theorem gram_ways {ts : List Tk} (hn : ts.length ≤ 4096) {f : Nat} {R : Res Gram} (h : pGram ts f = some R) (hne : (tkAt ts 1).kind = 1 → (tkAt ts 1).text ≠ []) :
    (isSg ts 0 37 = false ∧ ∃ RR, pRules ts f 0 [] = some RR ∧ R = fin [] RR) ∨ (isSg ts 0 37 = true ∧ (((tkAt ts 1).kind ≠ 1 ∧ R = .bad ts 1 2) ∨ ((tkAt ts 1).kind = 1 ∧ ((isSg ts 2 59 = false ∧ R = .bad ts 2 2) ∨ (isSg ts 2 59 = true ∧ ∃ RR, pRules ts f 3 [] = some RR ∧ R = fin (tkAt ts 1).text RR))))) := by
  unfold pGram at h
  cases hs : isSg ts 0 37
  · rw [hs, if_neg (by decide)] at h
    exact .inl ⟨rfl, fin_bind [] _ R (by simpa using h)⟩
  · rw [hs, if_pos rfl, tak_short hn] at h
    refine .inr ⟨rfl, ?_⟩
    have h1 : ((nam ts 1).bind fun n j => (need ts j 59).bind fun _ k => (pRules ts f k []).bind fun r => r.bind fun rs m => some (.ok (Gram.mk n rs) m)) = some R := h
    rw [nam_short hn] at h1
    by_cases hk : (tkAt ts 1).kind = 1
    · rw [if_pos hk] at h1
      refine .inr ⟨hk, ?_⟩
      have h2 : ((need ts 2 59).bind fun _ k => (pRules ts f k []).bind fun r => r.bind fun rs m => some (.ok (Gram.mk (tkAt ts 1).text rs) m)) = some R := h1
      rw [need_short hn] at h2
      cases hs2 : isSg ts 2 59
      · rw [hs2, if_neg (by decide)] at h2
        have h5 : some (Res.bad ts 2 2) = some R := h2
        injection h5 with h5
        exact .inl ⟨rfl, h5.symm⟩
      · rw [hs2, if_pos rfl] at h2
        have h3 : ((pRules ts f 3 []).bind fun r => r.bind fun rs m => some (.ok (Gram.mk (tkAt ts 1).text rs) m)) = some R := h2
        exact .inr ⟨rfl, fin_bind (tkAt ts 1).text _ R (by simp only [if_neg (hne hk)]; exact h3)⟩
    · rw [if_neg hk] at h1
      have h5 : some (Res.bad ts 1 2) = some R := h1
      injection h5 with h5
      exact .inl ⟨hk, h5.symm⟩

/-- Within Parse: the state's block p, the results' blocks; the grammar's block is the next one. -/
structure RpIn (W0 : World) (p r : Nat) (ts : List Tk) (cap i d : Nat) (F : Nat × Nat × Nat) (W : World) : Prop where
  par : QAt W p r ts cap i d F
  res : W.heap[W0.heap.size]? = some (.cells #[.string ⟨#[]⟩, .slice none 0 0] 33 (0, 0))
  flt : W.heap[W0.heap.size + 1]? = some (.cells #[.int .i64 0, .int .i64 0, .int .i64 0] 35 (0, 0))
  below : Below W0.heap.size W0 W
  hp : W0.heap.size + 1 < p
  gl : p + 1 < W.heap.size
structure RpAt (W0 : World) (p r : Nat) (ts : List Tk) (cap i d : Nat) (F : Nat × Nat × Nat) (W : World) (tx : List UInt8) (A : Option Addr) (cp : Nat) (acc : List Rul) : Prop extends RpIn W0 p r ts cap i d F W where
  gb : W.heap[p + 1]? = some (.cells #[.string (Lx.mk tx), .slice A acc.length cp] 33 (0, 0))
  items : QRItems (p + 2) (p + 1) W A cp acc
section
variable {W0 W W' : World} {p r : Nat} {ts : List Tk} {cap i j d d' : Nat} {F F' : Nat × Nat × Nat} {tx : List UInt8} {A : Option Addr} {cp : Nat} {acc : List Rul}
theorem RpIn.call (h : RpIn W0 p r ts cap i d F W) (q : QAt W' p r ts cap j d' F') (k : Lx.Sep p W.heap.size W W') : RpIn W0 p r ts cap j d' F' W' :=
  have h1 := h.hp
  have h2 := h.gl
  ⟨q, (k.block _ (heap_lt h.res) (by omega)).trans h.res, (k.block _ (heap_lt h.flt) (by omega)).trans h.flt, h.below.trans (k.below (by omega) (by omega)), h1, Nat.lt_of_lt_of_le h2 k.size⟩
theorem RpAt.call (h : RpAt W0 p r ts cap i d F W tx A cp acc) (q : QAt W' p r ts cap j d' F') (k : Lx.Sep p W.heap.size W W') : RpAt W0 p r ts cap j d' F' W' tx A cp acc :=
  ⟨h.toRpIn.call q k, (k.block _ (heap_lt h.gb) (by omega)).trans h.gb, h.items.keep k.size fun b hb _ hl => k.block b hl (by omega)⟩
theorem RpAt.under (h : RpAt W0 p r ts cap i d F W tx A cp acc) (b : Below W.heap.size W W') : RpAt W0 p r ts cap i d F W' tx A cp acc := h.call (h.par.below b) (Lx.Sep.of_below b)
theorem RpAt.facts (h : RpAt W0 p r ts cap i d F W tx A cp acc) : W.cell? ⟨p + 1, 0, none⟩ = some (.string (Lx.mk tx)) ∧ W.cell? ⟨p + 1, 1, none⟩ = some (.slice A acc.length cp) ∧ ∀ j, W.frozen? ⟨p + 1, j, none⟩ = false :=
  ⟨cell_of_row _ _ 0 _ _ (0, 0) h.gb, cell_of_row _ _ 1 _ _ (0, 0) h.gb, frozen_row h.gb⟩
/-- Behind an append to the rules, and its store. -/
theorem RpIn.grow {W1 w4 : World} {o : Obj} {v : Value} (h : RpAt W0 p r ts cap i d F W1 tx A cp acc) (hgr : (W1.alloc o).grownBy w4 (Value.slice A acc.length cp).ownBlock) :
    w4.heap[p + 1]? = W1.heap[p + 1]? ∧ RpIn W0 p r ts cap i d F (w4.setCell ⟨p + 1, 1, none⟩ v) := by
  have hol := h.items.own_lt
  have hp := h.hp
  have hgl := h.gl
  have hlt := h.par.lt
  have keep : ∀ k, k ≤ p + 1 → w4.heap[k]? = W1.heap[k]? := fun k hk =>
    (hgr.block k (by simp; omega) (fun e => by have := (hol k e.symm).2; omega)).trans (heap_alloc_old W1 o (by omega))
  have hset : ∀ b, p + 1 ≠ b → (w4.setCell ⟨p + 1, 1, none⟩ v).heap[b]? = w4.heap[b]? := fun b hb => Lx.set_keep w4 1 _ hb
  have hszs : (w4.setCell ⟨p + 1, 1, none⟩ v).heap.size = w4.heap.size := by simp [World.setCell]
  have hsz4 : W1.heap.size + 1 ≤ w4.heap.size := by have := hgr.size; simp at this; omega
  refine ⟨keep _ (Nat.le_refl _), ⟨((hset _ (by omega)).trans (keep _ (by omega))).trans h.par.blk, ⟨by rw [hszs]; have := h.par.tok.1; omega, fun k u hk => ?_⟩, h.par.le, hlt⟩, ((hset _ (by omega)).trans (keep _ (by omega))).trans h.res, ((hset _ (by omega)).trans (keep _ (by omega))).trans h.flt, ?_, hp, by rw [hszs]; omega⟩
  · have e := h.par.tok.2 k u hk
    have hk2 := (hset r (by omega)).trans (keep r (by omega))
    unfold World.cell? at e ⊢
    simp only [hk2]
    exact e
  · have b0 : Below W0.heap.size W1 w4 := ⟨hgr.os, hgr.tape, hgr.output, by omega, fun q hq => keep q (by omega)⟩
    exact (h.below.trans b0).setCell (show W0.heap.size ≤ p + 1 by omega) _
theorem RpAt.snoc {W1 w4 : World} {lo : Nat} {n : List UInt8} {t : Tree} {x y z : Value} {o : Obj} {gq cp' : Nat} (h : RpAt W0 p r ts cap i d F W1 tx A cp acc) (hlo : p + 2 ≤ lo) (hlo2 : lo ≤ W1.heap.size) (hown : ∀ k, (Value.slice A acc.length cp).ownBlock = some k → k < lo) (hn : Nd (fun q => lo ≤ q) W1 t x y z)
    (hown4 : ∀ vs : List (Value × Value × Value × Value), W1.ownsRow (p + 2) 68 4 (.slice A acc.length cp) acc.length (cells4 vs) → w4.ownsRow (p + 2) 68 4 (.slice (some ⟨gq, 0, none⟩) (acc.length + 1) cp') (acc.length + 1) (cells4 vs ++ [.string (Lx.mk n), x, y, z]))
    (hgr : (W1.alloc o).grownBy w4 (Value.slice A acc.length cp).ownBlock) (hat : (Value.slice A acc.length cp).ownBlock = some gq ∨ gq = (W1.alloc o).heap.size) :
    RpAt W0 p r ts cap i d F (w4.setCell ⟨p + 1, 1, none⟩ (.slice (some ⟨gq, 0, none⟩) (acc.length + 1) cp')) tx (some ⟨gq, 0, none⟩) cp' (acc ++ [(n, t)]) := by
  have hit := h.items.snoc hlo (by omega) hown hlo2 hn hown4 hgr hat
  obtain ⟨hg, hin⟩ := RpIn.grow (v := .slice (some ⟨gq, 0, none⟩) (acc.length + 1) cp') h hgr
  refine ⟨hin, ?_, hit.keep (by simp [World.setCell]) fun q _ hq _ => Lx.set_keep w4 1 _ (fun e => hq e.symm)⟩
  have := Lx.heap_set (hg.trans h.gb) 1 (.slice (some ⟨gq, 0, none⟩) (acc.length + 1) cp')
  rw [show (acc ++ [(n, t)]).length = acc.length + 1 by simp]
  exact this
end
/-- How far Parse's loop is. -/
def RpLoop (W0 : World) (p r : Nat) (ts : List Tk) (cap f : Nat) (R : Res Gram) (W : World) : Prop :=
  (∃ (f' i cp : Nat) (A : Option Addr) (acc : List Rul) (tx : List UInt8) (RR : Res (List Rul)), f' ≤ f ∧ i < ts.length ∧ acc.length ≤ 64 ∧ pRules ts f' i acc = some RR ∧ R = fin tx RR ∧ RpAt W0 p r ts cap i 0 (0, 0, 0) W tx A cp acc) ∨
  ∃ l c k i d, k ≠ 0 ∧ R = .no l c k ∧ RpIn W0 p r ts cap i d (l, c, k) W
/-- Behind it. -/
def RpEnd (W0 : World) (p r : Nat) (ts : List Tk) (cap : Nat) (R : Res Gram) (W : World) : Prop :=
  (∃ (i cp : Nat) (A : Option Addr) (acc : List Rul) (tx : List UInt8), 0 < acc.length ∧ R = fin tx (.ok acc i) ∧ RpAt W0 p r ts cap i 0 (0, 0, 0) W tx A cp acc) ∨
  ∃ l c k i d, k ≠ 0 ∧ R = .no l c k ∧ RpIn W0 p r ts cap i d (l, c, k) W
/-- What is left: of a fault nothing. -/
def msP (L : Nat) (W : World) (p : Nat) : Nat :=
  match W.cell? ⟨p, 4, none⟩, W.cell? ⟨p, 1, none⟩ with
  | some (.int _ c), some (.int _ i) => if c = 0 then L + 1 - i.toNat else 0
  | _, _ => 0
theorem msP_is {L : Nat} {W : World} {p r : Nat} {ts : List Tk} {cap i d : Nat} {F : Nat × Nat × Nat} (h : QAt W p r ts cap i d F) : msP L W p = if F.2.2 = 0 then L + 1 - i else 0 := by
  obtain ⟨_, c1, _, _, c4, _⟩ := h.facts
  unfold msP
  rw [c1, c4]
  by_cases hF : F.2.2 = 0
  · rw [if_pos hF]; simp [hF]
  · rw [if_neg hF]
    show (if ((F.2.2 : Nat) : Int) = 0 then _ else 0) = 0
    rw [if_neg (by omega)]
/-- What the plain Parse tells. -/
def RParsed (W : World) (R : Res Gram) (e : Ending) (w' : World) : Prop :=
  ∃ x y, e = .returned (.tuple #[x, y]) ∧ Below W.heap.size W w' ∧
    match R with
    | .no l c k => x = .agg #[.string ⟨#[]⟩, .slice none 0 0] ∧ y = .agg #[.int .i64 l, .int .i64 c, .int .i64 k]
    | .ok G _ => GV W.heap.size G x w' ∧ y = .agg #[.int .i64 0, .int .i64 0, .int .i64 0]
theorem badQ_zero (ts : List Tk) (i k : Nat) : badQ (0, 0, 0) ts i k = ((tkAt ts i).line, (tkAt ts i).col, k) := rfl
end Go.Proofs.Ytppdemdjlhdfcaa.Sx

namespace Go.Proofs.Ytppdemdjlhdfcaa.Sx
open Go.RowKit
open Lx (Tk Toks heap_lt own_block bs)
set_option maxRecDepth 100000
set_option linter.unusedSimpArgs false

theorem rtoks_of {w : World} {B : Nat} {A : Option Addr} {cap : Nat} {ts : List Tk} (h : w.ownsRow B 89 4 (.slice A ts.length cap) ts.length (Lx.tkCells ts)) (hn : 0 < ts.length) :
    ∃ r, A = some ⟨r, 0, none⟩ ∧ Toks w r ts ∧ ts.length ≤ cap := by
  rcases h.2 with ⟨h1, h2⟩ | ⟨g, cap2, cur, h1, h2, h3, h4, _⟩
  · omega
  · injection h1 with hA _ h5
    subst hA
    subst h5
    have hc := h.cells (g := g) rfl
    exact ⟨g, rfl, ⟨Lx.heap_lt h3, fun j u hj => by have := hc j u hj; rwa [Lx.add_row] at this⟩, h4⟩
theorem two_newq (W : World) : Below W.heap.size W ((W.alloc (.cells #[.string ⟨#[]⟩, .slice none 0 0] 33)).alloc (.cells #[.int .i64 0, .int .i64 0, .int .i64 0] 35)) ∧
    ((W.alloc (.cells #[.string ⟨#[]⟩, .slice none 0 0] 33)).alloc (.cells #[.int .i64 0, .int .i64 0, .int .i64 0] 35)).heap.size = W.heap.size + 2 ∧
    ((W.alloc (.cells #[.string ⟨#[]⟩, .slice none 0 0] 33)).alloc (.cells #[.int .i64 0, .int .i64 0, .int .i64 0] 35)).heap[W.heap.size]? = some (.cells #[.string ⟨#[]⟩, .slice none 0 0] 33 (0, 0)) ∧
    ((W.alloc (.cells #[.string ⟨#[]⟩, .slice none 0 0] 33)).alloc (.cells #[.int .i64 0, .int .i64 0, .int .i64 0] 35)).heap[W.heap.size + 1]? = some (.cells #[.int .i64 0, .int .i64 0, .int .i64 0] 35 (0, 0)) := by
  refine ⟨((Below.refl _ _).alloc (Nat.le_refl _) _).alloc (by simp) _, by simp, (heap_alloc_old _ _ (by simp)).trans (heap_alloc_new W _), ?_⟩
  have := heap_alloc_new (W.alloc (.cells #[.string ⟨#[]⟩, .slice none 0 0] 33)) (.cells #[.int .i64 0, .int .i64 0, .int .i64 0] 35)
  rw [heap_size_alloc'] at this
  exact this
/-- The two results' blocks as they are at the beginning. -/
structure TwoQ (W0 W : World) : Prop where
  g : W.heap[W0.heap.size]? = some (.cells #[.string ⟨#[]⟩, .slice none 0 0] 33 (0, 0))
  k : W.heap[W0.heap.size + 1]? = some (.cells #[.int .i64 0, .int .i64 0, .int .i64 0] 35 (0, 0))
  bel : Below W0.heap.size W0 W
  size : W0.heap.size + 2 ≤ W.heap.size
theorem TwoQ.below {W0 W W' : World} (h : TwoQ W0 W) (b : Below W.heap.size W W') : TwoQ W0 W' :=
  ⟨(b.block _ (by have := h.size; omega)).trans h.g, (b.block _ (by have := h.size; omega)).trans h.k, h.bel.trans (b.mono h.bel.size), Nat.le_trans h.size b.size⟩
theorem TwoQ.facts {W0 W : World} (h : TwoQ W0 W) : W.cell? ⟨W0.heap.size, 0, none⟩ = some (.string ⟨#[]⟩) ∧ W.cell? ⟨W0.heap.size, 1, none⟩ = some (.slice none 0 0) ∧ (∀ j, W.frozen? ⟨W0.heap.size, j, none⟩ = false) ∧
    W.cell? ⟨W0.heap.size + 1, 0, none⟩ = some (.int .i64 0) ∧ W.cell? ⟨W0.heap.size + 1, 1, none⟩ = some (.int .i64 0) ∧ W.cell? ⟨W0.heap.size + 1, 2, none⟩ = some (.int .i64 0) ∧ ∀ j, W.frozen? ⟨W0.heap.size + 1, j, none⟩ = false :=
  ⟨cell_of_row _ _ 0 _ _ (0, 0) h.g, cell_of_row _ _ 1 _ _ (0, 0) h.g, frozen_row h.g, cell_of_row _ _ 0 _ _ (0, 0) h.k, cell_of_row _ _ 1 _ _ (0, 0) h.k, cell_of_row _ _ 2 _ _ (0, 0) h.k, frozen_row h.k⟩
theorem RpIn.two {W0 W : World} {p r : Nat} {ts : List Tk} {cap i d : Nat} {F : Nat × Nat × Nat} (h : RpIn W0 p r ts cap i d F W) : TwoQ W0 W := ⟨h.res, h.flt, h.below, by have := h.hp; have := h.gl; omega⟩
theorem RpAt.start {W w1 : World} {r cap : Nat} {ts : List Tk} (h2 : TwoQ W w1) (ht : Toks w1 r ts) (hc : ts.length ≤ cap) :
    RpAt W (w1.heap.size + 1) r ts cap 0 0 (0, 0, 0) (((w1.alloc (.cells #[.int .i64 0, .int .i64 0, .int .i64 0] 35)).alloc (.cells #[.slice (some ⟨r, 0, none⟩) ts.length cap, .int .i64 0, .int .i64 0, .int .i64 0, .int .i64 0, .int .i64 0] 57)).alloc (.cells #[.string ⟨#[]⟩, .slice none 0 0] 33)) [] none 0 [] := by
  have b1 : Below w1.heap.size w1 (w1.alloc (.cells #[.int .i64 0, .int .i64 0, .int .i64 0] 35)) := (Below.refl _ _).alloc (Nat.le_refl _) _
  have b2 := b1.alloc (by simp) (.cells #[.slice (some ⟨r, 0, none⟩) ts.length cap, .int .i64 0, .int .i64 0, .int .i64 0, .int .i64 0, .int .i64 0] 57)
  have b3 := b2.alloc (by simp; omega) (.cells #[.string ⟨#[]⟩, .slice none 0 0] 33)
  have n2 := heap_alloc_new (w1.alloc (.cells #[.int .i64 0, .int .i64 0, .int .i64 0] 35)) (.cells #[.slice (some ⟨r, 0, none⟩) ts.length cap, .int .i64 0, .int .i64 0, .int .i64 0, .int .i64 0, .int .i64 0] 57)
  rw [heap_size_alloc'] at n2
  have n3 := heap_alloc_new ((w1.alloc (.cells #[.int .i64 0, .int .i64 0, .int .i64 0] 35)).alloc (.cells #[.slice (some ⟨r, 0, none⟩) ts.length cap, .int .i64 0, .int .i64 0, .int .i64 0, .int .i64 0, .int .i64 0] 57)) (.cells #[.string ⟨#[]⟩, .slice none 0 0] 33)
  rw [heap_size_alloc', heap_size_alloc'] at n3
  have h3 := h2.below b3
  have hr := ht.1
  have hsz := h2.size
  exact ⟨⟨⟨(heap_alloc_old _ _ (by simp)).trans n2, ht.below b3, hc, by omega⟩, h3.g, h3.k, h3.bel, by omega, by simp⟩, n3, QRItems.nil _ _ _⟩
section
variable {W0 W : World} {p r : Nat} {ts : List Tk} {cap i d : Nat} {F : Nat × Nat × Nat} {tx : List UInt8} {A : Option Addr} {cp : Nat} {acc : List Rul}
/-- A store of the start. -/
theorem RpAt.name (h : RpAt W0 p r ts cap i d F W tx A cp acc) (s : List UInt8) : RpAt W0 p r ts cap i d F (W.setCell ⟨p + 1, 0, none⟩ (.string (Lx.mk s))) s A cp acc := by
  have hp := h.hp
  have hlt := h.par.lt
  have hset : ∀ b, p + 1 ≠ b → (W.setCell ⟨p + 1, 0, none⟩ (.string (Lx.mk s))).heap[b]? = W.heap[b]? := fun b hb => Lx.set_keep W 0 _ hb
  have hsz : (W.setCell ⟨p + 1, 0, none⟩ (.string (Lx.mk s))).heap.size = W.heap.size := by simp [World.setCell]
  refine ⟨⟨⟨(hset _ (by omega)).trans h.par.blk, ⟨by rw [hsz]; exact h.par.tok.1, fun k u hk => ?_⟩, h.par.le, hlt⟩, (hset _ (by omega)).trans h.res, (hset _ (by omega)).trans h.flt, h.below.setCell (show W0.heap.size ≤ p + 1 by omega) _, hp, by rw [hsz]; exact h.gl⟩, Lx.heap_set h.gb 0 _, h.items.keep (by rw [hsz]; exact Nat.le_refl _) fun q _ hq _ => hset q (fun e => hq e.symm)⟩
  have e := h.par.tok.2 k u hk
  have hk2 := hset r (by omega)
  unfold World.cell? at e ⊢
  simp only [hk2]
  exact e
end
theorem sgQ0 (ts : List Tk) (i : Nat) (c : UInt8) : sgQ (0, 0, 0) ts i c = isSg ts i c := by unfold sgQ; simp
theorem sgQx {F : Nat × Nat × Nat} (h : F.2.2 ≠ 0) (ts : List Tk) (i : Nat) (c : UInt8) : sgQ F ts i c = false := by unfold sgQ; rw [decide_eq_false h]; rfl
theorem badQx {F : Nat × Nat × Nat} (h : F.2.2 ≠ 0) (ts : List Tk) (i k : Nat) : badQ F ts i k = F := by unfold badQ; rw [if_neg h]
theorem nmQ0 {ts : List Tk} {i : Nat} (h : (tkAt ts i).kind = 1) : nmQ (0, 0, 0) ts i = true := by unfold nmQ; rw [decide_eq_true h]; rfl
theorem nmQ1 {F : Nat × Nat × Nat} {ts : List Tk} {i : Nat} (h : (tkAt ts i).kind ≠ 1) : nmQ F ts i = false := by unfold nmQ; rw [decide_eq_false h]; simp
theorem nmQx {F : Nat × Nat × Nat} {ts : List Tk} {i : Nat} (h : F.2.2 ≠ 0) : nmQ F ts i = false := by unfold nmQ; rw [decide_eq_false h]; rfl
theorem name_ok {W : World} {g r : Nat} {ts : List Tk} {cap i d : Nat} (h : QAt W g r ts cap i d (0, 0, 0)) (hi : i < ts.length) (hn : ts.length ≤ 4096) (hk : (tkAt ts i).kind = 1) :
    Calls Try.prog 15 #[.pointer (some ⟨g, 0, none⟩)] W (Quits W g r ts cap (i + 1) d (0, 0, 0) (.string (Lx.mk (tkAt ts i).text))) := by
  have := nameq_any W g r ts cap i d (0, 0, 0) h hi hn
  rwa [nmQ0 hk, if_pos rfl, if_pos rfl, if_pos hk] at this
theorem name_no {W : World} {g r : Nat} {ts : List Tk} {cap i d : Nat} (h : QAt W g r ts cap i d (0, 0, 0)) (hi : i < ts.length) (hn : ts.length ≤ 4096) (hk : (tkAt ts i).kind ≠ 1) :
    Calls Try.prog 15 #[.pointer (some ⟨g, 0, none⟩)] W (Quits W g r ts cap i d ((tkAt ts i).line, (tkAt ts i).col, 2) (.string ⟨#[]⟩)) := by
  have := nameq_any W g r ts cap i d (0, 0, 0) h hi hn
  rw [nmQ1 hk, if_neg (show ¬ (false = true) by decide), if_neg hk, if_neg (show ¬ (false = true) by decide)] at this
  exact this
theorem name_bad {W : World} {g r : Nat} {ts : List Tk} {cap i d : Nat} {F : Nat × Nat × Nat} (h : QAt W g r ts cap i d F) (hi : i < ts.length) (hn : ts.length ≤ 4096) (hk : (tkAt ts i).kind = 1) (hF : F.2.2 ≠ 0) :
    Calls Try.prog 15 #[.pointer (some ⟨g, 0, none⟩)] W (Quits W g r ts cap i d F (.string ⟨#[]⟩)) := by
  have := nameq_any W g r ts cap i d F h hi hn
  rw [nmQx hF, if_neg (show ¬ (false = true) by decide), if_pos hk, if_neg (show ¬ (false = true) by decide)] at this
  exact this
theorem need_ok {W : World} {g r : Nat} {ts : List Tk} {cap i d : Nat} {c : UInt8} (h : QAt W g r ts cap i d (0, 0, 0)) (hi : i < ts.length) (hn : ts.length ≤ 4096) (hs : isSg ts i c = true) :
    Calls Try.prog 16 #[.pointer (some ⟨g, 0, none⟩), .string ⟨#[c]⟩] W (Quits W g r ts cap (i + 1) d (0, 0, 0) (.tuple #[])) := by
  have := needq_any W g r ts cap i d (0, 0, 0) c h hi hn
  rwa [sgQ0, hs, if_pos rfl, if_pos rfl] at this
theorem need_no {W : World} {g r : Nat} {ts : List Tk} {cap i d : Nat} {c : UInt8} (h : QAt W g r ts cap i d (0, 0, 0)) (hi : i < ts.length) (hn : ts.length ≤ 4096) (hs : isSg ts i c = false) :
    Calls Try.prog 16 #[.pointer (some ⟨g, 0, none⟩), .string ⟨#[c]⟩] W (Quits W g r ts cap i d ((tkAt ts i).line, (tkAt ts i).col, 2) (.tuple #[])) := by
  have := needq_any W g r ts cap i d (0, 0, 0) c h hi hn
  rwa [sgQ0, hs, if_neg (by decide), if_neg (by decide)] at this
theorem need_bad {W : World} {g r : Nat} {ts : List Tk} {cap i d : Nat} {c : UInt8} {F : Nat × Nat × Nat} (h : QAt W g r ts cap i d F) (hi : i < ts.length) (hn : ts.length ≤ 4096) (hF : F.2.2 ≠ 0) :
    Calls Try.prog 16 #[.pointer (some ⟨g, 0, none⟩), .string ⟨#[c]⟩] W (Quits W g r ts cap i d F (.tuple #[])) := by
  have := needq_any W g r ts cap i d F c h hi hn
  rwa [sgQx hF, if_neg (by decide), if_neg (by decide), badQx hF] at this
theorem qat_codes {W : World} {g r : Nat} {ts : List Tk} {cap i d : Nat} {l c k : Nat} (h : QAt W g r ts cap i d (l, c, k)) : W.cell? ⟨g, 2, none⟩ = some (.int .i64 l) ∧ W.cell? ⟨g, 3, none⟩ = some (.int .i64 c) ∧ W.cell? ⟨g, 4, none⟩ = some (.int .i64 k) ∧ ∀ j, W.frozen? ⟨g, j, none⟩ = false :=
  ⟨h.facts.2.2.1, h.facts.2.2.2.1, h.facts.2.2.2.2.1, h.facts.2.2.2.2.2.2⟩
theorem kind1_text {T : List Tk} {e : Tk} (he : e.kind = 4) (hv : ∀ t ∈ T, Lx.Valid t) (i : Nat) (hk : (tkAt (T ++ [e]) i).kind = 1) : (tkAt (T ++ [e]) i).text ≠ [] := by
  rcases tk_cases he hv i with (h | h | h) | h
  · have := h.2.1
    intro e0
    rw [e0] at this
    simp at this
  · omega
  · have := h.1; omega
  · omega
end Go.Proofs.Ytppdemdjlhdfcaa.Sx

namespace Go.Proofs.Ytppdemdjlhdfcaa.Sx
open Go.RowKit
open Lx (Tk Toks heap_lt own_block bs)
set_option maxRecDepth 100000

/-- The rule's block, its body stored. -/
theorem rule_set {w5 w7 : World} {p r : Nat} {ts : List Tk} {cap j d : Nat} {F : Nat × Nat × Nat} (q7 : QAt w7 p r ts cap j d F) (s7 : Lx.Sep p w5.heap.size w5 w7) (hp : p + 1 < w5.heap.size) {a b c e : Value} (hB : w7.heap[w5.heap.size]? = some (.cells #[a, b, c, e] 68 (0, 0))) (x y z : Value) :
    ∃ V, V = ((w7.setCell ⟨w5.heap.size, 1, none⟩ x).setCell ⟨w5.heap.size, 2, none⟩ y).setCell ⟨w5.heap.size, 3, none⟩ z ∧ QAt V p r ts cap j d F ∧ Lx.Sep p w5.heap.size w5 V ∧ V.heap[w5.heap.size]? = some (.cells #[a, x, y, z] 68 (0, 0)) ∧ V.heap.size = w7.heap.size ∧ ∀ q, q ≠ w5.heap.size → V.heap[q]? = w7.heap[q]? := by
  refine ⟨_, rfl, ?_, ((s7.setCell (.inr (Nat.le_refl _)) _).setCell (.inr (Nat.le_refl _)) _).setCell (.inr (Nat.le_refl _)) _, Lx.heap_set (Lx.heap_set (Lx.heap_set hB 1 x) 2 y) 3 z, by simp [World.setCell], ?_⟩
  · have hk : ∀ q, q ≠ w5.heap.size → (((w7.setCell ⟨w5.heap.size, 1, none⟩ x).setCell ⟨w5.heap.size, 2, none⟩ y).setCell ⟨w5.heap.size, 3, none⟩ z).heap[q]? = w7.heap[q]? := fun q hq => (Lx.set_keep _ 3 z (fun e => hq e.symm)).trans ((Lx.set_keep _ 2 y (fun e => hq e.symm)).trans (Lx.set_keep _ 1 x (fun e => hq e.symm)))
    have hlt := q7.lt
    refine ⟨(hk _ (by omega)).trans q7.blk, ⟨by simp [World.setCell]; exact q7.tok.1, fun k u hk2 => ?_⟩, q7.le, hlt⟩
    have e := q7.tok.2 k u hk2
    have h2 := hk r (by omega)
    unfold World.cell? at e ⊢
    simp only [h2]
    exact e
  · intro q hq
    exact (Lx.set_keep _ 3 z (fun e => hq e.symm)).trans ((Lx.set_keep _ 2 y (fun e => hq e.symm)).trans (Lx.set_keep _ 1 x (fun e => hq e.symm)))

theorem alt_code {ts : List Tk} {f i l c k : Nat} (h : pAlt ts f 0 i = some (.no l c k)) : k ≠ 0 := (cod_all ts f).1 0 i l c k h
theorem alt_in {ts : List Tk} (hE : Ended ts) {f i m : Nat} {t : Tree} (h : pAlt ts f 0 i = some (.ok t m)) (hi : i < ts.length) : m < ts.length := (inb_all ts hE f).1 0 i hi t m h
theorem alt_adv {ts : List Tk} {f i m : Nat} {t : Tree} (h : pAlt ts f 0 i = some (.ok t m)) : i ≤ m := by have := (adv_all ts f).1 0 i t m h; omega

theorem gv_of {lo : Nat} {W : World} {start s : List UInt8} {rs : List Rul} {y : Value} (h : RlsAt (fun r => lo ≤ r) W rs y) (e : start = s) : GV lo ⟨start, rs⟩ (.agg #[.string (Lx.mk s), y]) W := ⟨y, by rw [e], h⟩
theorem rule_every {ts : List Tk} (hn : ts.length ≤ 4096) {f i : Nat} {acc : List Rul} {RR : Res (List Rul)} (h : (∃ l c k, pRule ts f i = some (.no l c k) ∧ RR = .no l c k) ∨ ∃ v j, pRule ts f i = some (.ok v j) ∧ pRules ts f j (acc ++ [v]) = some RR) :
    ((tkAt ts i).kind ≠ 1 ∧ RR = .no (tkAt ts i).line (tkAt ts i).col 2) ∨ ((tkAt ts i).kind = 1 ∧ ((isSg ts (i + 1) 58 = false ∧ RR = .no (tkAt ts (i + 1)).line (tkAt ts (i + 1)).col 2) ∨ (isSg ts (i + 1) 58 = true ∧
      ((∃ l c k, pAlt ts f 0 (i + 1 + 1) = some (.no l c k) ∧ RR = .no l c k) ∨ ∃ t m, pAlt ts f 0 (i + 1 + 1) = some (.ok t m) ∧ ((isSg ts m 59 = false ∧ RR = .no (tkAt ts m).line (tkAt ts m).col 2) ∨ (isSg ts m 59 = true ∧ pRules ts f (m + 1) (acc ++ [((tkAt ts i).text, t)]) = some RR)))))) := by
  rcases h with ⟨l, c, k, h1, rfl⟩ | ⟨v, j, h1, h2⟩
  · rcases rule_ways hn h1 with ⟨a, b⟩ | ⟨a, ⟨b, c2⟩ | ⟨b, ⟨l2, c2, k2, d, e⟩ | ⟨t, m, d, ⟨e, g⟩ | ⟨e, g⟩⟩⟩⟩
    · unfold Res.bad at b; injection b with b1 b2 b3; subst b1; subst b2; subst b3; exact .inl ⟨a, rfl⟩
    · unfold Res.bad at c2; injection c2 with b1 b2 b3; subst b1; subst b2; subst b3; exact .inr ⟨a, .inl ⟨b, rfl⟩⟩
    · injection e with b1 b2 b3; subst b1; subst b2; subst b3; exact .inr ⟨a, .inr ⟨b, .inl ⟨_, _, _, d, rfl⟩⟩⟩
    · unfold Res.bad at g; injection g with b1 b2 b3; subst b1; subst b2; subst b3; exact .inr ⟨a, .inr ⟨b, .inr ⟨t, m, d, .inl ⟨e, rfl⟩⟩⟩⟩
    · cases g
  · rcases rule_ways hn h1 with ⟨a, b⟩ | ⟨a, ⟨b, c2⟩ | ⟨b, ⟨l2, c2, k2, d, e⟩ | ⟨t, m, d, ⟨e, g⟩ | ⟨e, g⟩⟩⟩⟩
    · cases b
    · cases c2
    · cases e
    · cases g
    · injection g with g1 g2
      subst g1
      subst g2
      exact .inr ⟨a, .inr ⟨b, .inr ⟨t, m, d, .inr ⟨e, h2⟩⟩⟩⟩
end Go.Proofs.Ytppdemdjlhdfcaa.Sx

namespace Go.Proofs.Ytppdemdjlhdfcaa.Sx
open Go.RowKit
open Lx (Tk Toks heap_lt own_block bs)
set_option maxRecDepth 100000
set_option linter.unusedSimpArgs false

set_option maxHeartbeats 16000000 in
theorem parseq_any (s : ByteArray) (W : World) (hs : s.size ≤ 2000) :
    Calls Try.prog 6 #[.string s] W (RParsed W (parseS (bs s))) := by
  obtain ⟨hb, hz, hg, hk⟩ := two_newq W
  have KS := Lx.rscan_any s ((W.alloc (.cells #[.string ⟨#[]⟩, .slice none 0 0] 33)).alloc (.cells #[.int .i64 0, .int .i64 0, .int .i64 0] 35)) (by omega)
  have H2 := Lib.hid (show TwoQ W ((W.alloc (.cells #[.string ⟨#[]⟩, .slice none 0 0] 33)).alloc (.cells #[.int .i64 0, .int .i64 0, .int .i64 0] 35)) from ⟨hg, hk, hb, by rw [hz]; exact Nat.le_refl _⟩)
  clear hb hz hg hk
  have hbl : (bs s).length = s.size := Lx.bs_len s
  rcases Lx.scanS_cases (bs s) (by omega) with ⟨⟨f0, f1, f2⟩, hf, hsc⟩ | ⟨T, e, hsc, he, _, hv, _, hT⟩
  · have hP : parseS (bs s) = .no f0 f1 f2 := by rw [parseS, hsc, if_pos hf]
    rw [hP]
    rw [hsc] at KS
    have e1 : ((f2 : Int) != 0) = true := by rw [bne_iff_ne]; simp only at hf; omega
    have HK := Lib.hid KS
    clear KS hP hsc hf hbl hs
    go_enter Try.func6, Try.ntmps6
    go_wp2_with fail
    refine HK.out.mono ?_
    rintro e w1 ⟨A, cap, rfl, hown, b1⟩
    simp only [Lx.fltV]
    have H1 := Lib.hid (H2.out.below b1)
    clear hown b1
    go_wp2
    have hn := heap_alloc_new w1 (.cells #[.int .i64 f0, .int .i64 f1, .int .i64 f2] 35)
    have H3 := Lib.hid (H1.out.below ((Below.refl _ _).alloc (Nat.le_refl _) (.cells #[.int .i64 f0, .int .i64 f1, .int .i64 f2] 35)))
    have hsz := H1.out.size
    generalize hW : World.alloc w1 _ = V
    rw [hW] at hn H3
    have n0 : V.cell? ⟨w1.heap.size, 0, none⟩ = some (.int .i64 f0) := cell_of_row _ _ 0 _ _ (0, 0) hn
    have n1 : V.cell? ⟨w1.heap.size, 1, none⟩ = some (.int .i64 f1) := cell_of_row _ _ 1 _ _ (0, 0) hn
    have n2 : V.cell? ⟨w1.heap.size, 2, none⟩ = some (.int .i64 f2) := cell_of_row _ _ 2 _ _ (0, 0) hn
    obtain ⟨g0, g1, gf, k0, k1, k2, kf⟩ := H3.out.facts
    have q1 : w1.heap.size ≠ W.heap.size := by omega
    have q2 : w1.heap.size ≠ W.heap.size + 1 := by omega
    clear hW hn
    go_region
    all_goals
      obtain ⟨u1, u2, u3, e1, e2, e3, u4⟩ := five_cells H3.out.g H3.out.k (by omega) (.string ⟨#[]⟩) (.slice none 0 0) (.int .i64 f0) (.int .i64 f1) (.int .i64 f2)
      have hbel : Below W.heap.size W _ := H3.out.bel.trans ⟨e1, e2, e3, Nat.le_of_eq u3.symm, fun b hb => u4 b (by omega) (by omega)⟩
      go_wp2
      exact bodyPost_ret (Lx.results_cells2 (P := Try.prog) rfl _ _ W.heap.size (W.heap.size + 1) 33 35 _ _ (0, 0) (0, 0) _ _ rfl u1 Try.underlying33 rfl rfl rfl u2 Try.underlying35 rfl rfl) rfl ⟨_, _, rfl, below_drew' hbel, rfl, rfl⟩
  have hP : parseS (bs s) = parseT (T ++ [e]) := by rw [parseS, hsc, if_neg (by simp)]
  rw [hP]
  clear hP
  rw [hsc] at KS
  have hE := ended_app T e he
  have hKd := kinds_app he hv
  have hne := kind1_text he hv 1
  have h0 : 0 < (T ++ [e]).length := by simp
  have hn : (T ++ [e]).length ≤ 4096 := by simp; omega
  obtain ⟨ts, hts⟩ : ∃ ts, ts = T ++ [e] := ⟨_, rfl⟩
  rw [← hts] at KS hE hKd hne h0 hn ⊢
  have hG := gram_ways hn (parseT_is ts) hne
  generalize parseT ts = R at hG ⊢
  generalize 7 * ts.length + 8 = f at hG
  have HG := Lib.hid hG
  have HK := Lib.hid KS
  clear KS hsc he hv hts hG hne hbl hT hs
  obtain ⟨i0, hi0, hz0, hz1, hz2⟩ := info_parts qruinfo
  go_enter Try.func6, Try.ntmps6
  go_wp2_with fail
  refine HK.out.mono ?_
  rintro e w1 ⟨A, cap, rfl, hown, b1⟩
  simp only [Lx.fltV]
  obtain ⟨r, rfl, htk, hcap⟩ := rtoks_of hown h0
  have HS := Lib.hid (RpAt.start (H2.out.below b1) htk hcap)
  have hsz1 := (H2.out.below b1).size
  clear hown b1 htk hcap H2 HK
  go_wp2_with fail
  generalize hV : World.alloc (World.alloc (World.alloc w1 _) _) _ = V
  rw [hV] at HS
  clear hV
  rw [show w1.heap.size + 1 + 1 = w1.heap.size + 2 from rfl]
  obtain ⟨p, hp⟩ : ∃ p, p = w1.heap.size + 1 := ⟨_, rfl⟩
  rw [show w1.heap.size + 2 = p + 1 by omega]
  rw [← hp] at HS ⊢
  clear hp hsz1
  have KI := isq_any V p r ts cap 0 0 (0, 0, 0) 37 HS.out.par h0 hn
  rw [sgQ0] at KI
  obtain ⟨b, hb⟩ : ∃ b, b = isSg ts 0 37 := ⟨_, rfl⟩
  rw [← hb] at KI
  have HB := Lib.hid hb
  have HKI := Lib.hid KI
  clear KI hb
  refine HKI.out.mono ?_
  rintro e w2 ⟨rfl, b2⟩
  have H2 := Lib.hid (HS.out.under b2)
  clear b2 HS HKI
  go_upto_if 26 with fail
  go_cut [] (fun wx => RpLoop W p r ts cap f R wx)
  case first =>
    cases b
    · rcases HG.out with ⟨_, RR, hRR, hfin⟩ | ⟨hx, _⟩
      · have HE := Lib.hid (show RpLoop W p r ts cap f R w2 from .inl ⟨f, 0, 0, none, [], [], RR, Nat.le_refl _, h0, by simp, hRR, hfin, H2.out⟩)
        clear hRR hfin
        go_wp2
        go_meet
        case rel => exact HE.out
      · exact absurd (HB.out.trans hx) (by decide)
    · have hg := HG.out
      have h1l := hE 0 (isSg_kind (by exact HB.out.symm))
      rcases hg with ⟨hx, _⟩ | ⟨_, hg⟩
      · exact absurd (HB.out.trans hx) (by decide)
      obtain ⟨c0, c1, c2, c3, c4, c5, cf⟩ := H2.out.par.facts
      have hq1 := H2.out.par.set 1 (.int .i64 1) 1 0 (0, 0, 0) rfl
      have h3 := H2.out.call hq1 ((Lx.Sep.refl p w2.heap.size w2).setCell (p := ⟨p, 1, none⟩) (.inl rfl) (.int .i64 1))
      have H3 := Lib.hid h3
      clear hq1 h3
      rcases hg with ⟨hk, hR⟩ | ⟨hk, hg⟩
      · have KN := Lib.hid (name_no H3.out.par h1l hn hk)
        have HR := Lib.hid hR
        clear hk hR
        go_wp2_with fail
        refine KN.out.mono ?_
        rintro e w3 ⟨rfl, q3, s3⟩
        have H4 := Lib.hid (H3.out.call q3 s3)
        obtain ⟨d0, d1, df⟩ := H4.out.facts
        have H5 := Lib.hid (H4.out.name [])
        have KD := Lib.hid (need_bad (c := 59) H5.out.par h1l hn (show (2 : Nat) ≠ 0 by decide))
        clear q3 s3
        go_wp2_with fail
        refine KD.out.mono ?_
        rintro e w4 ⟨rfl, q4, s4⟩
        have HE := Lib.hid (show RpLoop W p r ts cap f R w4 from .inr ⟨(tkAt ts 1).line, (tkAt ts 1).col, 2, 1, 0, by decide, HR.out, (H5.out.call q4 s4).toRpIn⟩)
        clear q4 s4
        go_wp2
        go_meet
        case rel => exact HE.out
      · have KN := Lib.hid (name_ok H3.out.par h1l hn hk)
        have h2l := hE 1 (by rw [hk]; decide)
        clear hk
        rcases hg with ⟨hs2, hR⟩ | ⟨hs2, RR, hRR, hfin⟩
        · have HR := Lib.hid hR
          have KX := fun w (hw : QAt w p r ts cap 2 0 (0, 0, 0)) => need_no hw h2l hn hs2
          have HX := Lib.hid KX
          clear hs2 hR KX
          obtain ⟨tx, htx⟩ : ∃ tx, tx = Lx.mk (tkAt ts 1).text := ⟨_, rfl⟩
          rw [← htx] at KN
          have HTX := Lib.hid htx
          clear htx
          go_wp2_with fail
          refine KN.out.mono ?_
          rintro e w3 ⟨rfl, q3, s3⟩
          have H4 := Lib.hid (H3.out.call q3 s3)
          obtain ⟨d0, d1, df⟩ := H4.out.facts
          have H5 := Lib.hid (H4.out.name (tkAt ts 1).text)
          rw [← HTX.out] at H5
          clear q3 s3
          go_wp2_with fail
          refine (HX.out _ H5.out.par).mono ?_
          rintro e w4 ⟨rfl, q4, s4⟩
          have HE := Lib.hid (show RpLoop W p r ts cap f R w4 from .inr ⟨(tkAt ts 2).line, (tkAt ts 2).col, 2, 2, 0, by decide, HR.out, (H5.out.call q4 s4).toRpIn⟩)
          clear q4 s4
          go_wp2
          go_meet
          case rel => exact HE.out
        · have HRR := Lib.hid hRR
          have HFI := Lib.hid hfin
          have h3l := hE 2 (isSg_kind hs2)
          have KX := fun w (hw : QAt w p r ts cap 2 0 (0, 0, 0)) => need_ok hw h2l hn hs2
          have HX := Lib.hid KX
          clear hs2 hRR hfin KX
          obtain ⟨tx, htx⟩ : ∃ tx, tx = Lx.mk (tkAt ts 1).text := ⟨_, rfl⟩
          rw [← htx] at KN
          have HTX := Lib.hid htx
          clear htx
          go_wp2_with fail
          refine KN.out.mono ?_
          rintro e w3 ⟨rfl, q3, s3⟩
          have H4 := Lib.hid (H3.out.call q3 s3)
          obtain ⟨d0, d1, df⟩ := H4.out.facts
          have H5 := Lib.hid (H4.out.name (tkAt ts 1).text)
          rw [← HTX.out] at H5
          clear q3 s3
          go_wp2_with fail
          refine (HX.out _ H5.out.par).mono ?_
          rintro e w4 ⟨rfl, q4, s4⟩
          have HE := Lib.hid (show RpLoop W p r ts cap f R w4 from .inl ⟨f, 3, 0, none, [], (tkAt ts 1).text, RR, Nat.le_refl _, h3l, by simp, HRR.out, HFI.out, H5.out.call q4 s4⟩)
          clear q4 s4
          go_wp2
          go_meet
          case rel => exact HE.out
  case rest =>
    have HC := Lib.hid hcut
    clear hcut H2 HG HB
    go_upto_block 0 with fail
    go_cut [] (fun wx => RpEnd W p r ts cap R wx)
    case first =>
      go_wp2_with fail
      go_loopw [8] (fun _ wr => RpLoop W p r ts cap f R wr) (fun _ wr => msP ts.length wr p)
      case atStart => exact HC.out
      case round =>
        clear HC
        rcases hrel with ⟨f', i, cp, A, acc, tx, RR, hf, hi, h64, hM, hfin, hL⟩ | ⟨l, c, k, i, d, hk, hfin, hL⟩
        case inr =>
          obtain ⟨c2, c3, c4, cf⟩ := qat_codes hL.par
          have e1 : ((k : Int) == 0) = false := by rw [beq_eq_false_iff_ne]; omega
          have HE := Lib.hid (show RpEnd W p r ts cap R wr from .inr ⟨l, c, k, i, d, hk, hfin, hL⟩)
          clear hL hfin hk c2 c3
          go_wp2
          go_meet
          case rel => exact HE.out
        have hms := msP_is (L := ts.length) hL.par
        rw [if_pos rfl] at hms
        have HMS := Lib.hid hms
        have c4 : wr.cell? ⟨p, 4, none⟩ = some (.int .i64 0) := (qat_codes hL.par).2.2.1
        have KL := Lib.hid (look_any wr p r ts cap i 0 (0, 0, 0) hL.par hi hn)
        obtain ⟨f'', rfl, hw⟩ := rules_ways hM
        have HL := Lib.hid hL
        have HFI := Lib.hid hfin
        clear hms hL hM hfin
        obtain ⟨tk, htk⟩ : ∃ tk, tk = Lx.mk (tkAt ts i).text := ⟨_, rfl⟩
        rw [← htk] at KL
        have HTK := Lib.hid htk
        clear htk
        rcases hw with ⟨hl, hk4, hRR⟩ | ⟨hno, hw⟩
        · have e4 : (((tkAt ts i).kind : Int) == 4) = true := by rw [beq_iff_eq]; omega
          have hl2 : (0 : Int) < (acc.length : Int) := by omega
          have HE := Lib.hid (fun w (hw : RpAt W p r ts cap i 0 (0, 0, 0) w tx A cp acc) => (show RpEnd W p r ts cap R w from .inl ⟨i, cp, A, acc, tx, hl, by rw [← hRR]; exact HFI.out, hw⟩))
          clear hk4 hRR hl
          go_wp2_with fail
          refine KL.out.mono ?_
          rintro e w3 ⟨rfl, b3⟩
          have H3 := Lib.hid (HL.out.under b3)
          obtain ⟨g0, g1, gf⟩ := H3.out.facts
          clear b3
          go_wp2
          go_meet
          case rel => exact HE.out _ H3.out
        have HFX := Lib.hid (show ∀ l c k : Nat, RR = .no l c k → R = .no l c k from fun l c k h => by have := HFI.out; rw [h] at this; exact this)
        rcases hw with ⟨h6, hk1, hRR⟩ | ⟨hno6, hw⟩
        · have e1 : (((tkAt ts i).kind : Int) == 1) = true := by rw [beq_iff_eq]; omega
          have e4 : (((tkAt ts i).kind : Int) == 4) = false := by rw [beq_eq_false_iff_ne]; omega
          have e64 : ((acc.length : Int) == 64) = true := by rw [beq_iff_eq]; omega
          have HRX := Lib.hid (HFX.out _ _ _ hRR)
          have KB := Lib.hid (fun w (hw : QAt w p r ts cap i 0 (0, 0, 0)) => badq_any w p r ts cap i 0 (0, 0, 0) 6 hw hi)
          have KN := Lib.hid (fun w (hw : QAt w p r ts cap i 0 ((tkAt ts i).line, (tkAt ts i).col, 6)) => name_bad hw hi hn hk1 (show (6 : Nat) ≠ 0 by decide))
          clear hk1 hRR h6 hno
          go_wp2_with fail
          refine KL.out.mono ?_
          rintro e w3 ⟨rfl, b3⟩
          have H3 := Lib.hid (HL.out.under b3)
          obtain ⟨g0, g1, gf⟩ := H3.out.facts
          clear b3
          go_wp2_with fail
          refine (KB.out _ H3.out.par).mono ?_
          rintro e w4 ⟨rfl, q4, s4⟩
          rw [badQ_zero] at q4
          have H4 := Lib.hid (H3.out.call q4 s4)
          clear q4 s4 g0 g1 gf
          go_wp2_with fail
          refine (KN.out _ H4.out.par).mono ?_
          rintro e w5 ⟨rfl, q5, s5⟩
          have H5 := Lib.hid (H4.out.call q5 s5)
          clear q5 s5
          have d4a : ∀ o, (w5.alloc o).cell? ⟨p, 4, none⟩ = some (.int .i64 6) := fun o => (qat_codes (H5.out.under ((Below.refl w5.heap.size w5).alloc (Nat.le_refl _) o)).par).2.2.1
          go_upto_if 76 with fail
          clear d4a
          have hx := heap_alloc_new w5 (.cells #[.string ⟨#[]⟩, .int .i64 0, .string ⟨#[]⟩, .slice none 0 0] 68)
          have HV := Lib.hid (H5.out.under ((Below.refl w5.heap.size w5).alloc (Nat.le_refl _) (.cells #[.string ⟨#[]⟩, .int .i64 0, .string ⟨#[]⟩, .slice none 0 0] 68)))
          have SV := Lib.hid (Lx.Sep.of_below (g := p) ((Below.refl w5.heap.size w5).alloc (Nat.le_refl _) (.cells #[.string ⟨#[]⟩, .int .i64 0, .string ⟨#[]⟩, .slice none 0 0] 68)))
          have HZV := Lib.hid (show w5.heap.size < (w5.alloc (.cells #[.string ⟨#[]⟩, .int .i64 0, .string ⟨#[]⟩, .slice none 0 0] 68)).heap.size by simp)
          generalize hVe : World.alloc w5 _ = V
          rw [hVe] at hx HV SV HZV
          clear hVe
          obtain ⟨vs, hv1, hv2, hvx, hv4⟩ := HV.out.items
          have HVR := Lib.hid hv2
          have d4 : V.cell? ⟨p, 4, none⟩ = some (.int .i64 6) := (qat_codes HV.out.par).2.2.1
          obtain ⟨g0, g1, gf⟩ := HV.out.facts
          have k0 : V.cell? ⟨w5.heap.size, 0, none⟩ = some (.string ⟨#[]⟩) := cell_of_row _ _ 0 _ _ (0, 0) hx
          have k1 : V.cell? ⟨w5.heap.size, 1, none⟩ = some (.int .i64 0) := cell_of_row _ _ 1 _ _ (0, 0) hx
          have k2 : V.cell? ⟨w5.heap.size, 2, none⟩ = some (.string ⟨#[]⟩) := cell_of_row _ _ 2 _ _ (0, 0) hx
          have k3 : V.cell? ⟨w5.heap.size, 3, none⟩ = some (.slice none 0 0) := cell_of_row _ _ 3 _ _ (0, 0) hx
          have hgl := HV.out.gl
          clear hv1 hv2 hvx hv4 hx
          go_wp2_with (at_builtin; refine wpList_append_lies _ rfl _ _ 31 rfl (p + 2) 68 i0 _ 4 64 Try.underlying31 hi0 hz0 hz1 hz2 rfl (by decide) (.slice A acc.length cp) acc.length (cells4 vs) rfl (HVR.out.alloc _) ⟨V.heap.size, 0, none⟩ 1 1 [.string ⟨#[]⟩, .int .i64 0, .string ⟨#[]⟩, .slice none 0 0] rfl rfl (Lx.row_new _ [.string ⟨#[]⟩, .int .i64 0, .string ⟨#[]⟩, .slice none 0 0] _ _ rfl) (by simp [Value.oneCell']) (by decide) (by unfold maxLen; omega) (by omega) (by simp; omega) _ rfl ?_; intro gq cap' w9 hown9 hgrow9 hat9 hlt9; have hgb9 := (RpIn.grow (v := .slice (some ⟨gq, 0, none⟩) (acc.length + 1) cap') HV.out hgrow9).1.trans HV.out.gb; have u9 : w9.cell? ⟨p + 1, 1, none⟩ = some (.slice A acc.length cp) := cell_of_row _ _ 1 _ _ (0, 0) hgb9; have uf9 := frozen_row hgb9; have H9 := Lib.hid (RpIn.grow (v := .slice (some ⟨gq, 0, none⟩) (acc.length + 1) cap') HV.out hgrow9).2; clear hgb9 hown9 hgrow9 hat9 hlt9)
          go_roundw
          case rel => exact .inr ⟨_, _, _, _, _, (show (6 : Nat) ≠ 0 by decide), HRX.out, H9.out⟩
          case measure =>
            rw [HMS.out, msP_is H9.out.par, if_neg (show ¬ _ = 0 from (show (6 : Nat) ≠ 0 by decide))]
            omega
        rcases rule_every hn hw with ⟨hk1, hRR⟩ | ⟨hk1, hc⟩
        · have e1 : (((tkAt ts i).kind : Int) == 1) = false := by rw [beq_eq_false_iff_ne]; omega
          rcases (show (tkAt ts i).kind ≠ 4 ∨ ((tkAt ts i).kind = 4 ∧ acc.length = 0) by omega) with h4 | ⟨h4, h5⟩
          · have e4 : (((tkAt ts i).kind : Int) == 4) = false := by rw [beq_eq_false_iff_ne]; omega
            clear h4 hno hno6
            have HRX := Lib.hid (HFX.out _ _ _ hRR)
            have KN := Lib.hid (fun w (hw : QAt w p r ts cap i 0 (0, 0, 0)) => name_no hw hi hn hk1)
            clear hRR
            go_wp2_with fail
            refine KL.out.mono ?_
            rintro e w3 ⟨rfl, b3⟩
            have H3 := Lib.hid (HL.out.under b3)
            obtain ⟨g0, g1, gf⟩ := H3.out.facts
            clear b3
            go_wp2_with fail
            refine (KN.out _ H3.out.par).mono ?_
            rintro e w5 ⟨rfl, q5, s5⟩
            have H5 := Lib.hid (H3.out.call q5 s5)
            clear q5 s5 g0 g1 gf hk1
            have d4a : ∀ o, (w5.alloc o).cell? ⟨p, 4, none⟩ = some (.int .i64 2) := fun o => (qat_codes (H5.out.under ((Below.refl w5.heap.size w5).alloc (Nat.le_refl _) o)).par).2.2.1
            go_upto_if 76 with fail
            clear d4a
            have hx := heap_alloc_new w5 (.cells #[.string ⟨#[]⟩, .int .i64 0, .string ⟨#[]⟩, .slice none 0 0] 68)
            have HV := Lib.hid (H5.out.under ((Below.refl w5.heap.size w5).alloc (Nat.le_refl _) (.cells #[.string ⟨#[]⟩, .int .i64 0, .string ⟨#[]⟩, .slice none 0 0] 68)))
            have SV := Lib.hid (Lx.Sep.of_below (g := p) ((Below.refl w5.heap.size w5).alloc (Nat.le_refl _) (.cells #[.string ⟨#[]⟩, .int .i64 0, .string ⟨#[]⟩, .slice none 0 0] 68)))
            have HZV := Lib.hid (show w5.heap.size < (w5.alloc (.cells #[.string ⟨#[]⟩, .int .i64 0, .string ⟨#[]⟩, .slice none 0 0] 68)).heap.size by simp)
            generalize hVe : World.alloc w5 _ = V
            rw [hVe] at hx HV SV HZV
            clear hVe
            obtain ⟨vs, hv1, hv2, hvx, hv4⟩ := HV.out.items
            have HVR := Lib.hid hv2
            have d4 : V.cell? ⟨p, 4, none⟩ = some (.int .i64 2) := (qat_codes HV.out.par).2.2.1
            obtain ⟨g0, g1, gf⟩ := HV.out.facts
            have k0 : V.cell? ⟨w5.heap.size, 0, none⟩ = some (.string ⟨#[]⟩) := cell_of_row _ _ 0 _ _ (0, 0) hx
            have k1 : V.cell? ⟨w5.heap.size, 1, none⟩ = some (.int .i64 0) := cell_of_row _ _ 1 _ _ (0, 0) hx
            have k2 : V.cell? ⟨w5.heap.size, 2, none⟩ = some (.string ⟨#[]⟩) := cell_of_row _ _ 2 _ _ (0, 0) hx
            have k3 : V.cell? ⟨w5.heap.size, 3, none⟩ = some (.slice none 0 0) := cell_of_row _ _ 3 _ _ (0, 0) hx
            have hgl := HV.out.gl
            clear hv1 hv2 hvx hv4 hx
            go_wp2_with (at_builtin; refine wpList_append_lies _ rfl _ _ 31 rfl (p + 2) 68 i0 _ 4 64 Try.underlying31 hi0 hz0 hz1 hz2 rfl (by decide) (.slice A acc.length cp) acc.length (cells4 vs) rfl (HVR.out.alloc _) ⟨V.heap.size, 0, none⟩ 1 1 [.string ⟨#[]⟩, .int .i64 0, .string ⟨#[]⟩, .slice none 0 0] rfl rfl (Lx.row_new _ [.string ⟨#[]⟩, .int .i64 0, .string ⟨#[]⟩, .slice none 0 0] _ _ rfl) (by simp [Value.oneCell']) (by decide) (by unfold maxLen; omega) (by omega) (by simp; omega) _ rfl ?_; intro gq cap' w9 hown9 hgrow9 hat9 hlt9; have hgb9 := (RpIn.grow (v := .slice (some ⟨gq, 0, none⟩) (acc.length + 1) cap') HV.out hgrow9).1.trans HV.out.gb; have u9 : w9.cell? ⟨p + 1, 1, none⟩ = some (.slice A acc.length cp) := cell_of_row _ _ 1 _ _ (0, 0) hgb9; have uf9 := frozen_row hgb9; have H9 := Lib.hid (RpIn.grow (v := .slice (some ⟨gq, 0, none⟩) (acc.length + 1) cap') HV.out hgrow9).2; clear hgb9 hown9 hgrow9 hat9 hlt9)
            go_roundw
            case rel => exact .inr ⟨_, _, _, _, _, (show (2 : Nat) ≠ 0 by decide), HRX.out, H9.out⟩
            case measure =>
              rw [HMS.out, msP_is H9.out.par, if_neg (show ¬ _ = 0 from (show (2 : Nat) ≠ 0 by decide))]
              omega
          · have e4 : (((tkAt ts i).kind : Int) == 4) = true := by rw [beq_iff_eq]; omega
            have hl0 : ¬ (0 : Int) < (acc.length : Int) := by omega
            clear h4 h5 hno hno6
            have HRX := Lib.hid (HFX.out _ _ _ hRR)
            have KN := Lib.hid (fun w (hw : QAt w p r ts cap i 0 (0, 0, 0)) => name_no hw hi hn hk1)
            clear hRR
            go_wp2_with fail
            refine KL.out.mono ?_
            rintro e w3 ⟨rfl, b3⟩
            have H3 := Lib.hid (HL.out.under b3)
            obtain ⟨g0, g1, gf⟩ := H3.out.facts
            clear b3
            go_wp2_with fail
            refine (KN.out _ H3.out.par).mono ?_
            rintro e w5 ⟨rfl, q5, s5⟩
            have H5 := Lib.hid (H3.out.call q5 s5)
            clear q5 s5 g0 g1 gf hk1
            have d4a : ∀ o, (w5.alloc o).cell? ⟨p, 4, none⟩ = some (.int .i64 2) := fun o => (qat_codes (H5.out.under ((Below.refl w5.heap.size w5).alloc (Nat.le_refl _) o)).par).2.2.1
            go_upto_if 76 with fail
            clear d4a
            have hx := heap_alloc_new w5 (.cells #[.string ⟨#[]⟩, .int .i64 0, .string ⟨#[]⟩, .slice none 0 0] 68)
            have HV := Lib.hid (H5.out.under ((Below.refl w5.heap.size w5).alloc (Nat.le_refl _) (.cells #[.string ⟨#[]⟩, .int .i64 0, .string ⟨#[]⟩, .slice none 0 0] 68)))
            have SV := Lib.hid (Lx.Sep.of_below (g := p) ((Below.refl w5.heap.size w5).alloc (Nat.le_refl _) (.cells #[.string ⟨#[]⟩, .int .i64 0, .string ⟨#[]⟩, .slice none 0 0] 68)))
            have HZV := Lib.hid (show w5.heap.size < (w5.alloc (.cells #[.string ⟨#[]⟩, .int .i64 0, .string ⟨#[]⟩, .slice none 0 0] 68)).heap.size by simp)
            generalize hVe : World.alloc w5 _ = V
            rw [hVe] at hx HV SV HZV
            clear hVe
            obtain ⟨vs, hv1, hv2, hvx, hv4⟩ := HV.out.items
            have HVR := Lib.hid hv2
            have d4 : V.cell? ⟨p, 4, none⟩ = some (.int .i64 2) := (qat_codes HV.out.par).2.2.1
            obtain ⟨g0, g1, gf⟩ := HV.out.facts
            have k0 : V.cell? ⟨w5.heap.size, 0, none⟩ = some (.string ⟨#[]⟩) := cell_of_row _ _ 0 _ _ (0, 0) hx
            have k1 : V.cell? ⟨w5.heap.size, 1, none⟩ = some (.int .i64 0) := cell_of_row _ _ 1 _ _ (0, 0) hx
            have k2 : V.cell? ⟨w5.heap.size, 2, none⟩ = some (.string ⟨#[]⟩) := cell_of_row _ _ 2 _ _ (0, 0) hx
            have k3 : V.cell? ⟨w5.heap.size, 3, none⟩ = some (.slice none 0 0) := cell_of_row _ _ 3 _ _ (0, 0) hx
            have hgl := HV.out.gl
            clear hv1 hv2 hvx hv4 hx
            go_wp2_with (at_builtin; refine wpList_append_lies _ rfl _ _ 31 rfl (p + 2) 68 i0 _ 4 64 Try.underlying31 hi0 hz0 hz1 hz2 rfl (by decide) (.slice A acc.length cp) acc.length (cells4 vs) rfl (HVR.out.alloc _) ⟨V.heap.size, 0, none⟩ 1 1 [.string ⟨#[]⟩, .int .i64 0, .string ⟨#[]⟩, .slice none 0 0] rfl rfl (Lx.row_new _ [.string ⟨#[]⟩, .int .i64 0, .string ⟨#[]⟩, .slice none 0 0] _ _ rfl) (by simp [Value.oneCell']) (by decide) (by unfold maxLen; omega) (by omega) (by simp; omega) _ rfl ?_; intro gq cap' w9 hown9 hgrow9 hat9 hlt9; have hgb9 := (RpIn.grow (v := .slice (some ⟨gq, 0, none⟩) (acc.length + 1) cap') HV.out hgrow9).1.trans HV.out.gb; have u9 : w9.cell? ⟨p + 1, 1, none⟩ = some (.slice A acc.length cp) := cell_of_row _ _ 1 _ _ (0, 0) hgb9; have uf9 := frozen_row hgb9; have H9 := Lib.hid (RpIn.grow (v := .slice (some ⟨gq, 0, none⟩) (acc.length + 1) cap') HV.out hgrow9).2; clear hgb9 hown9 hgrow9 hat9 hlt9)
            go_roundw
            case rel => exact .inr ⟨_, _, _, _, _, (show (2 : Nat) ≠ 0 by decide), HRX.out, H9.out⟩
            case measure =>
              rw [HMS.out, msP_is H9.out.par, if_neg (show ¬ _ = 0 from (show (2 : Nat) ≠ 0 by decide))]
              omega
        have e1 : (((tkAt ts i).kind : Int) == 1) = true := by rw [beq_iff_eq]; omega
        have e4 : (((tkAt ts i).kind : Int) == 4) = false := by rw [beq_eq_false_iff_ne]; omega
        have e64 : ((acc.length : Int) == 64) = false := by rw [beq_eq_false_iff_ne]; omega
        have hl64 : acc.length ≠ 64 := by omega
        clear hno hno6
        have hi1 := hE i (by rw [hk1]; decide)
        rcases hc with ⟨hs58, hRR⟩ | ⟨hs58, hc⟩
        · have HRX := Lib.hid (HFX.out _ _ _ hRR)
          have KD := Lib.hid (fun w (hw : QAt w p r ts cap (i + 1) 0 (0, 0, 0)) => need_no hw hi1 hn hs58)
          clear hRR hs58
          have KN := Lib.hid (fun w (hw : QAt w p r ts cap i 0 (0, 0, 0)) => name_ok hw hi hn hk1)
          rw [← HTK.out] at KN
          go_wp2_with fail
          refine KL.out.mono ?_
          rintro e w3 ⟨rfl, b3⟩
          have H3 := Lib.hid (HL.out.under b3)
          obtain ⟨g0, g1, gf⟩ := H3.out.facts
          clear b3
          go_wp2_with fail
          refine (KN.out _ H3.out.par).mono ?_
          rintro e w5 ⟨rfl, q5, s5⟩
          have H5 := Lib.hid (H3.out.call q5 s5)
          clear q5 s5 g0 g1 gf
          have d4a : ∀ o, (w5.alloc o).cell? ⟨p, 4, none⟩ = some (.int .i64 0) := fun o => (qat_codes (H5.out.under ((Below.refl w5.heap.size w5).alloc (Nat.le_refl _) o)).par).2.2.1
          go_upto_if 76 with fail
          clear d4a
          have hx := heap_alloc_new w5 (.cells #[.string tk, .int .i64 0, .string ⟨#[]⟩, .slice none 0 0] 68)
          have HV := Lib.hid (H5.out.under ((Below.refl w5.heap.size w5).alloc (Nat.le_refl _) (.cells #[.string tk, .int .i64 0, .string ⟨#[]⟩, .slice none 0 0] 68)))
          have SV := Lib.hid (Lx.Sep.of_below (g := p) ((Below.refl w5.heap.size w5).alloc (Nat.le_refl _) (.cells #[.string tk, .int .i64 0, .string ⟨#[]⟩, .slice none 0 0] 68)))
          have HZV := Lib.hid (show w5.heap.size < (w5.alloc (.cells #[.string tk, .int .i64 0, .string ⟨#[]⟩, .slice none 0 0] 68)).heap.size by simp)
          generalize hVe : World.alloc w5 _ = V
          rw [hVe] at hx HV SV HZV
          clear hVe
          have d4 : V.cell? ⟨p, 4, none⟩ = some (.int .i64 0) := (qat_codes HV.out.par).2.2.1
          go_wp2_with fail
          refine (KD.out _ HV.out.par).mono ?_
          rintro e w6 ⟨rfl, q6, s6⟩
          have hx6 := (s6.block _ HZV.out (by have := HV.out.gl; have := H5.out.gl; omega)).trans hx
          have H6 := Lib.hid (HV.out.call q6 s6)
          clear q6 s6 hx d4 HV SV HZV
          have HV := H6
          have hx := hx6
          clear hx6
          obtain ⟨vs, hv1, hv2, hvx, hv4⟩ := HV.out.items
          have HVR := Lib.hid hv2
          have d4 : w6.cell? ⟨p, 4, none⟩ = some (.int .i64 2) := (qat_codes HV.out.par).2.2.1
          obtain ⟨g0, g1, gf⟩ := HV.out.facts
          have k0 : w6.cell? ⟨w5.heap.size, 0, none⟩ = some (.string tk) := cell_of_row _ _ 0 _ _ (0, 0) hx
          have k1 : w6.cell? ⟨w5.heap.size, 1, none⟩ = some (.int .i64 0) := cell_of_row _ _ 1 _ _ (0, 0) hx
          have k2 : w6.cell? ⟨w5.heap.size, 2, none⟩ = some (.string ⟨#[]⟩) := cell_of_row _ _ 2 _ _ (0, 0) hx
          have k3 : w6.cell? ⟨w5.heap.size, 3, none⟩ = some (.slice none 0 0) := cell_of_row _ _ 3 _ _ (0, 0) hx
          have hgl := HV.out.gl
          clear hv1 hv2 hvx hv4 hx
          go_wp2_with (at_builtin; refine wpList_append_lies _ rfl _ _ 31 rfl (p + 2) 68 i0 _ 4 64 Try.underlying31 hi0 hz0 hz1 hz2 rfl (by decide) (.slice A acc.length cp) acc.length (cells4 vs) rfl (HVR.out.alloc _) ⟨w6.heap.size, 0, none⟩ 1 1 [.string tk, .int .i64 0, .string ⟨#[]⟩, .slice none 0 0] rfl rfl (Lx.row_new _ [.string tk, .int .i64 0, .string ⟨#[]⟩, .slice none 0 0] _ _ rfl) (by simp [Value.oneCell']) (by decide) (by unfold maxLen; omega) (by omega) (by simp; omega) _ rfl ?_; intro gq cap' w9 hown9 hgrow9 hat9 hlt9; have hgb9 := (RpIn.grow (v := .slice (some ⟨gq, 0, none⟩) (acc.length + 1) cap') HV.out hgrow9).1.trans HV.out.gb; have u9 : w9.cell? ⟨p + 1, 1, none⟩ = some (.slice A acc.length cp) := cell_of_row _ _ 1 _ _ (0, 0) hgb9; have uf9 := frozen_row hgb9; have H9 := Lib.hid (RpIn.grow (v := .slice (some ⟨gq, 0, none⟩) (acc.length + 1) cap') HV.out hgrow9).2; clear hgb9 hown9 hgrow9 hat9 hlt9)
          go_roundw
          case rel => exact .inr ⟨_, _, _, _, _, (show (2 : Nat) ≠ 0 by decide), HRX.out, H9.out⟩
          case measure =>
            rw [HMS.out, msP_is H9.out.par, if_neg (show ¬ _ = 0 from (show (2 : Nat) ≠ 0 by decide))]
            omega
        have hi2 := hE (i + 1) (isSg_kind hs58)
        rcases hc with ⟨l, c, k, hP, hRR⟩ | ⟨t, m, hP, hc⟩
        · have HRX := Lib.hid (HFX.out _ _ _ hRR)
          have hkne := alt_code hP
          have KD := Lib.hid (fun w (hw : QAt w p r ts cap (i + 1) 0 (0, 0, 0)) => need_ok hw hi1 hn hs58)
          have KA := Lib.hid (fun w (hw : QAt w p r ts cap (i + 1 + 1) 0 (0, 0, 0)) => (qknot ts hE hKd hn f'').1 w p r cap (i + 1 + 1) 0 _ hw hi2 (by omega) hP)
          have HKN := Lib.hid hkne
          have en : ((k : Int) == 0) = false := by rw [beq_eq_false_iff_ne]; omega
          clear hRR hs58 hP hkne
          have KN := Lib.hid (fun w (hw : QAt w p r ts cap i 0 (0, 0, 0)) => name_ok hw hi hn hk1)
          rw [← HTK.out] at KN
          go_wp2_with fail
          refine KL.out.mono ?_
          rintro e w3 ⟨rfl, b3⟩
          have H3 := Lib.hid (HL.out.under b3)
          obtain ⟨g0, g1, gf⟩ := H3.out.facts
          clear b3
          go_wp2_with fail
          refine (KN.out _ H3.out.par).mono ?_
          rintro e w5 ⟨rfl, q5, s5⟩
          have H5 := Lib.hid (H3.out.call q5 s5)
          clear q5 s5 g0 g1 gf
          have d4a : ∀ o, (w5.alloc o).cell? ⟨p, 4, none⟩ = some (.int .i64 0) := fun o => (qat_codes (H5.out.under ((Below.refl w5.heap.size w5).alloc (Nat.le_refl _) o)).par).2.2.1
          go_upto_if 76 with fail
          clear d4a
          have hx := heap_alloc_new w5 (.cells #[.string tk, .int .i64 0, .string ⟨#[]⟩, .slice none 0 0] 68)
          have HV := Lib.hid (H5.out.under ((Below.refl w5.heap.size w5).alloc (Nat.le_refl _) (.cells #[.string tk, .int .i64 0, .string ⟨#[]⟩, .slice none 0 0] 68)))
          have SV := Lib.hid (Lx.Sep.of_below (g := p) ((Below.refl w5.heap.size w5).alloc (Nat.le_refl _) (.cells #[.string tk, .int .i64 0, .string ⟨#[]⟩, .slice none 0 0] 68)))
          have HZV := Lib.hid (show w5.heap.size < (w5.alloc (.cells #[.string tk, .int .i64 0, .string ⟨#[]⟩, .slice none 0 0] 68)).heap.size by simp)
          generalize hVe : World.alloc w5 _ = V
          rw [hVe] at hx HV SV HZV
          clear hVe
          have d4 : V.cell? ⟨p, 4, none⟩ = some (.int .i64 0) := (qat_codes HV.out.par).2.2.1
          go_wp2_with fail
          refine (KD.out _ HV.out.par).mono ?_
          rintro e w6 ⟨rfl, q6, s6⟩
          have hx6 := (s6.block _ HZV.out (by have := HV.out.gl; have := H5.out.gl; omega)).trans hx
          have S6 := Lib.hid (SV.out.trans (s6.mono (Nat.le_of_lt HZV.out)))
          have HZ6 := Lib.hid (Nat.lt_of_lt_of_le HZV.out s6.size)
          have Q6 := Lib.hid q6
          have e6 : w6.cell? ⟨p, 4, none⟩ = some (.int .i64 0) := (qat_codes q6).2.2.1
          clear q6 s6 hx d4 HV SV HZV
          go_wp2_with fail
          refine (KA.out _ Q6.out).mono ?_
          rintro e w7 ⟨n7, t7, A7, m7, cp7, j7, d7, rfl, hj7, q7, s7⟩
          have hx7 := (s7.block _ HZ6.out (by have := H5.out.gl; omega)).trans hx6
          have S7 := Lib.hid (S6.out.trans (s7.mono (Nat.le_of_lt HZ6.out)))
          obtain ⟨V, hVe, qV, sV, hx, hVz, hVk⟩ := rule_set q7 S7.out H5.out.gl hx7 (.int .i64 n7) (.string t7) (.slice A7 m7 cp7)
          have HV := Lib.hid (H5.out.call qV sV)
          have HSV := Lib.hid sV
          have HVE := Lib.hid hVe
          have HVZ := Lib.hid hVz
          have HVK := Lib.hid hVk
          have HZ7 := Lib.hid (Nat.lt_of_lt_of_le HZ6.out s7.size)
          have y1 : w7.cell? ⟨w5.heap.size, 1, none⟩ = some (.int .i64 0) := cell_of_row _ _ 1 _ _ (0, 0) hx7
          have y2 : w7.cell? ⟨w5.heap.size, 2, none⟩ = some (.string ⟨#[]⟩) := cell_of_row _ _ 2 _ _ (0, 0) hx7
          have y3 : w7.cell? ⟨w5.heap.size, 3, none⟩ = some (.slice none 0 0) := cell_of_row _ _ 3 _ _ (0, 0) hx7
          have yf := frozen_row hx7
          have e7 : w7.cell? ⟨p, 4, none⟩ = some (.int .i64 k) := (qat_codes q7).2.2.1
          have hne1 : w5.heap.size ≠ p := by have := H5.out.gl; omega
          have hne2 : p ≠ w5.heap.size := by have := H5.out.gl; omega
          clear q7 s7 hx7 hx6 qV sV hVe hVz hVk e6
          go_upto_if 93 with fail
          rw [← HVE.out]
          clear y1 y2 y3 yf e7
          obtain ⟨vs, hv1, hv2, hvx, hv4⟩ := HV.out.items
          have HVR := Lib.hid hv2
          have d4 : V.cell? ⟨p, 4, none⟩ = some (.int .i64 k) := (qat_codes HV.out.par).2.2.1
          obtain ⟨g0, g1, gf⟩ := HV.out.facts
          have k0 : V.cell? ⟨w5.heap.size, 0, none⟩ = some (.string tk) := cell_of_row _ _ 0 _ _ (0, 0) hx
          have k1 : V.cell? ⟨w5.heap.size, 1, none⟩ = some (.int .i64 n7) := cell_of_row _ _ 1 _ _ (0, 0) hx
          have k2 : V.cell? ⟨w5.heap.size, 2, none⟩ = some (.string t7) := cell_of_row _ _ 2 _ _ (0, 0) hx
          have k3 : V.cell? ⟨w5.heap.size, 3, none⟩ = some (.slice A7 m7 cp7) := cell_of_row _ _ 3 _ _ (0, 0) hx
          have hgl := HV.out.gl
          clear hv1 hv2 hvx hv4 hx
          go_wp2_with (at_builtin; refine wpList_append_lies _ rfl _ _ 31 rfl (p + 2) 68 i0 _ 4 64 Try.underlying31 hi0 hz0 hz1 hz2 rfl (by decide) (.slice A acc.length cp) acc.length (cells4 vs) rfl (HVR.out.alloc _) ⟨V.heap.size, 0, none⟩ 1 1 [.string tk, .int .i64 n7, .string t7, .slice A7 m7 cp7] rfl rfl (Lx.row_new _ [.string tk, .int .i64 n7, .string t7, .slice A7 m7 cp7] _ _ rfl) (by simp [Value.oneCell']) (by decide) (by unfold maxLen; omega) (by omega) (by simp; omega) _ rfl ?_; intro gq cap' w9 hown9 hgrow9 hat9 hlt9; have hgb9 := (RpIn.grow (v := .slice (some ⟨gq, 0, none⟩) (acc.length + 1) cap') HV.out hgrow9).1.trans HV.out.gb; have u9 : w9.cell? ⟨p + 1, 1, none⟩ = some (.slice A acc.length cp) := cell_of_row _ _ 1 _ _ (0, 0) hgb9; have uf9 := frozen_row hgb9; have H9 := Lib.hid (RpIn.grow (v := .slice (some ⟨gq, 0, none⟩) (acc.length + 1) cap') HV.out hgrow9).2; clear hgb9 hown9 hgrow9 hat9 hlt9)
          go_roundw
          case rel => exact .inr ⟨_, _, _, _, _, HKN.out, HRX.out, H9.out⟩
          case measure =>
            rw [HMS.out, msP_is H9.out.par, if_neg (show ¬ _ = 0 from HKN.out)]
            omega
        have hm := alt_in hE hP hi2
        rcases hc with ⟨hs59, hRR⟩ | ⟨hs59, hP2⟩
        · have HRX := Lib.hid (HFX.out _ _ _ hRR)
          have KD := Lib.hid (fun w (hw : QAt w p r ts cap (i + 1) 0 (0, 0, 0)) => need_ok hw hi1 hn hs58)
          have KA := Lib.hid (fun w (hw : QAt w p r ts cap (i + 1 + 1) 0 (0, 0, 0)) => (qknot ts hE hKd hn f'').1 w p r cap (i + 1 + 1) 0 _ hw hi2 (by omega) hP)
          have KS := Lib.hid (fun w (hw : QAt w p r ts cap m 0 (0, 0, 0)) => need_no hw hm hn hs59)
          clear hRR hs58 hs59 hP
          have KN := Lib.hid (fun w (hw : QAt w p r ts cap i 0 (0, 0, 0)) => name_ok hw hi hn hk1)
          rw [← HTK.out] at KN
          go_wp2_with fail
          refine KL.out.mono ?_
          rintro e w3 ⟨rfl, b3⟩
          have H3 := Lib.hid (HL.out.under b3)
          obtain ⟨g0, g1, gf⟩ := H3.out.facts
          clear b3
          go_wp2_with fail
          refine (KN.out _ H3.out.par).mono ?_
          rintro e w5 ⟨rfl, q5, s5⟩
          have H5 := Lib.hid (H3.out.call q5 s5)
          clear q5 s5 g0 g1 gf
          have d4a : ∀ o, (w5.alloc o).cell? ⟨p, 4, none⟩ = some (.int .i64 0) := fun o => (qat_codes (H5.out.under ((Below.refl w5.heap.size w5).alloc (Nat.le_refl _) o)).par).2.2.1
          go_upto_if 76 with fail
          clear d4a
          have hx := heap_alloc_new w5 (.cells #[.string tk, .int .i64 0, .string ⟨#[]⟩, .slice none 0 0] 68)
          have HV := Lib.hid (H5.out.under ((Below.refl w5.heap.size w5).alloc (Nat.le_refl _) (.cells #[.string tk, .int .i64 0, .string ⟨#[]⟩, .slice none 0 0] 68)))
          have SV := Lib.hid (Lx.Sep.of_below (g := p) ((Below.refl w5.heap.size w5).alloc (Nat.le_refl _) (.cells #[.string tk, .int .i64 0, .string ⟨#[]⟩, .slice none 0 0] 68)))
          have HZV := Lib.hid (show w5.heap.size < (w5.alloc (.cells #[.string tk, .int .i64 0, .string ⟨#[]⟩, .slice none 0 0] 68)).heap.size by simp)
          generalize hVe : World.alloc w5 _ = V
          rw [hVe] at hx HV SV HZV
          clear hVe
          have d4 : V.cell? ⟨p, 4, none⟩ = some (.int .i64 0) := (qat_codes HV.out.par).2.2.1
          go_wp2_with fail
          refine (KD.out _ HV.out.par).mono ?_
          rintro e w6 ⟨rfl, q6, s6⟩
          have hx6 := (s6.block _ HZV.out (by have := HV.out.gl; have := H5.out.gl; omega)).trans hx
          have S6 := Lib.hid (SV.out.trans (s6.mono (Nat.le_of_lt HZV.out)))
          have HZ6 := Lib.hid (Nat.lt_of_lt_of_le HZV.out s6.size)
          have Q6 := Lib.hid q6
          have e6 : w6.cell? ⟨p, 4, none⟩ = some (.int .i64 0) := (qat_codes q6).2.2.1
          clear q6 s6 hx d4 HV SV HZV
          go_wp2_with fail
          refine (KA.out _ Q6.out).mono ?_
          rintro e w7 ⟨x7, y7, z7, rfl, hnd7, q7, s7⟩
          obtain ⟨k7, t7, A7, m7, cp7, rfl, rfl, rfl⟩ := hnd7.form
          have hx7 := (s7.block _ HZ6.out (by have := H5.out.gl; omega)).trans hx6
          have S7 := Lib.hid (S6.out.trans (s7.mono (Nat.le_of_lt HZ6.out)))
          obtain ⟨V, hVe, qV, sV, hx, hVz, hVk⟩ := rule_set q7 S7.out H5.out.gl hx7 (.int .i64 k7) (.string t7) (.slice A7 m7 cp7)
          have HV := Lib.hid (H5.out.call qV sV)
          have HSV := Lib.hid sV
          have HVE := Lib.hid hVe
          have HVZ := Lib.hid hVz
          have HVK := Lib.hid hVk
          have HZ7 := Lib.hid (Nat.lt_of_lt_of_le HZ6.out s7.size)
          have y1 : w7.cell? ⟨w5.heap.size, 1, none⟩ = some (.int .i64 0) := cell_of_row _ _ 1 _ _ (0, 0) hx7
          have y2 : w7.cell? ⟨w5.heap.size, 2, none⟩ = some (.string ⟨#[]⟩) := cell_of_row _ _ 2 _ _ (0, 0) hx7
          have y3 : w7.cell? ⟨w5.heap.size, 3, none⟩ = some (.slice none 0 0) := cell_of_row _ _ 3 _ _ (0, 0) hx7
          have yf := frozen_row hx7
          have e7 : w7.cell? ⟨p, 4, none⟩ = some (.int .i64 0) := (qat_codes q7).2.2.1
          have hne1 : w5.heap.size ≠ p := by have := H5.out.gl; omega
          have hne2 : p ≠ w5.heap.size := by have := H5.out.gl; omega
          have HND := Lib.hid ((hnd7.keep (W' := V) (Q := fun q => w5.heap.size + 1 ≤ q) (Nat.le_of_eq hVz.symm) fun q hq _ => ⟨by have := HZ6.out; omega, fun j => cell_same (hVk q (by have := HZ6.out; omega)) j⟩))
          clear hnd7
          clear q7 s7 hx7 hx6 qV sV hVe hVz hVk e6
          go_upto_if 93 with fail
          rw [← HVE.out]
          clear y1 y2 y3 yf e7
          have d4 : V.cell? ⟨p, 4, none⟩ = some (.int .i64 0) := (qat_codes HV.out.par).2.2.1
          go_wp2_with fail
          refine (KS.out _ HV.out.par).mono ?_
          rintro e w8 ⟨rfl, q8, s8⟩
          have hx8 := (s8.block _ (by rw [HVZ.out]; exact HZ7.out) (by have := H5.out.gl; omega)).trans hx
          have H8 := Lib.hid (HV.out.call q8 s8)
          clear q8 s8 hx d4 HV
          have HV := H8
          have hx := hx8
          clear hx8
          obtain ⟨vs, hv1, hv2, hvx, hv4⟩ := HV.out.items
          have HVR := Lib.hid hv2
          have d4 : w8.cell? ⟨p, 4, none⟩ = some (.int .i64 2) := (qat_codes HV.out.par).2.2.1
          obtain ⟨g0, g1, gf⟩ := HV.out.facts
          have k0 : w8.cell? ⟨w5.heap.size, 0, none⟩ = some (.string tk) := cell_of_row _ _ 0 _ _ (0, 0) hx
          have k1 : w8.cell? ⟨w5.heap.size, 1, none⟩ = some (.int .i64 k7) := cell_of_row _ _ 1 _ _ (0, 0) hx
          have k2 : w8.cell? ⟨w5.heap.size, 2, none⟩ = some (.string t7) := cell_of_row _ _ 2 _ _ (0, 0) hx
          have k3 : w8.cell? ⟨w5.heap.size, 3, none⟩ = some (.slice A7 m7 cp7) := cell_of_row _ _ 3 _ _ (0, 0) hx
          have hgl := HV.out.gl
          clear hv1 hv2 hvx hv4 hx
          go_wp2_with (at_builtin; refine wpList_append_lies _ rfl _ _ 31 rfl (p + 2) 68 i0 _ 4 64 Try.underlying31 hi0 hz0 hz1 hz2 rfl (by decide) (.slice A acc.length cp) acc.length (cells4 vs) rfl (HVR.out.alloc _) ⟨w8.heap.size, 0, none⟩ 1 1 [.string tk, .int .i64 k7, .string t7, .slice A7 m7 cp7] rfl rfl (Lx.row_new _ [.string tk, .int .i64 k7, .string t7, .slice A7 m7 cp7] _ _ rfl) (by simp [Value.oneCell']) (by decide) (by unfold maxLen; omega) (by omega) (by simp; omega) _ rfl ?_; intro gq cap' w9 hown9 hgrow9 hat9 hlt9; have hgb9 := (RpIn.grow (v := .slice (some ⟨gq, 0, none⟩) (acc.length + 1) cap') HV.out hgrow9).1.trans HV.out.gb; have u9 : w9.cell? ⟨p + 1, 1, none⟩ = some (.slice A acc.length cp) := cell_of_row _ _ 1 _ _ (0, 0) hgb9; have uf9 := frozen_row hgb9; have H9 := Lib.hid (RpIn.grow (v := .slice (some ⟨gq, 0, none⟩) (acc.length + 1) cap') HV.out hgrow9).2; clear hgb9 hown9 hgrow9 hat9 hlt9)
          go_roundw
          case rel => exact .inr ⟨_, _, _, _, _, (show (2 : Nat) ≠ 0 by decide), HRX.out, H9.out⟩
          case measure =>
            rw [HMS.out, msP_is H9.out.par, if_neg (show ¬ _ = 0 from (show (2 : Nat) ≠ 0 by decide))]
            omega
        · have HP2 := Lib.hid hP2
          have KD := Lib.hid (fun w (hw : QAt w p r ts cap (i + 1) 0 (0, 0, 0)) => need_ok hw hi1 hn hs58)
          have KA := Lib.hid (fun w (hw : QAt w p r ts cap (i + 1 + 1) 0 (0, 0, 0)) => (qknot ts hE hKd hn f'').1 w p r cap (i + 1 + 1) 0 _ hw hi2 (by omega) hP)
          have KS := Lib.hid (fun w (hw : QAt w p r ts cap m 0 (0, 0, 0)) => need_ok hw hm hn hs59)
          have hm2 := hE m (isSg_kind hs59)
          have ham := alt_adv hP
          have hl63 : acc.length ≤ 63 := by omega
          clear hs58 hs59 hP hP2
          have KN := Lib.hid (fun w (hw : QAt w p r ts cap i 0 (0, 0, 0)) => name_ok hw hi hn hk1)
          rw [← HTK.out] at KN
          go_wp2_with fail
          refine KL.out.mono ?_
          rintro e w3 ⟨rfl, b3⟩
          have H3 := Lib.hid (HL.out.under b3)
          obtain ⟨g0, g1, gf⟩ := H3.out.facts
          clear b3
          go_wp2_with fail
          refine (KN.out _ H3.out.par).mono ?_
          rintro e w5 ⟨rfl, q5, s5⟩
          have H5 := Lib.hid (H3.out.call q5 s5)
          clear q5 s5 g0 g1 gf
          have d4a : ∀ o, (w5.alloc o).cell? ⟨p, 4, none⟩ = some (.int .i64 0) := fun o => (qat_codes (H5.out.under ((Below.refl w5.heap.size w5).alloc (Nat.le_refl _) o)).par).2.2.1
          go_upto_if 76 with fail
          clear d4a
          have hx := heap_alloc_new w5 (.cells #[.string tk, .int .i64 0, .string ⟨#[]⟩, .slice none 0 0] 68)
          have HV := Lib.hid (H5.out.under ((Below.refl w5.heap.size w5).alloc (Nat.le_refl _) (.cells #[.string tk, .int .i64 0, .string ⟨#[]⟩, .slice none 0 0] 68)))
          have SV := Lib.hid (Lx.Sep.of_below (g := p) ((Below.refl w5.heap.size w5).alloc (Nat.le_refl _) (.cells #[.string tk, .int .i64 0, .string ⟨#[]⟩, .slice none 0 0] 68)))
          have HZV := Lib.hid (show w5.heap.size < (w5.alloc (.cells #[.string tk, .int .i64 0, .string ⟨#[]⟩, .slice none 0 0] 68)).heap.size by simp)
          generalize hVe : World.alloc w5 _ = V
          rw [hVe] at hx HV SV HZV
          clear hVe
          have d4 : V.cell? ⟨p, 4, none⟩ = some (.int .i64 0) := (qat_codes HV.out.par).2.2.1
          go_wp2_with fail
          refine (KD.out _ HV.out.par).mono ?_
          rintro e w6 ⟨rfl, q6, s6⟩
          have hx6 := (s6.block _ HZV.out (by have := HV.out.gl; have := H5.out.gl; omega)).trans hx
          have S6 := Lib.hid (SV.out.trans (s6.mono (Nat.le_of_lt HZV.out)))
          have HZ6 := Lib.hid (Nat.lt_of_lt_of_le HZV.out s6.size)
          have Q6 := Lib.hid q6
          have e6 : w6.cell? ⟨p, 4, none⟩ = some (.int .i64 0) := (qat_codes q6).2.2.1
          clear q6 s6 hx d4 HV SV HZV
          go_wp2_with fail
          refine (KA.out _ Q6.out).mono ?_
          rintro e w7 ⟨x7, y7, z7, rfl, hnd7, q7, s7⟩
          obtain ⟨k7, t7, A7, m7, cp7, rfl, rfl, rfl⟩ := hnd7.form
          have hx7 := (s7.block _ HZ6.out (by have := H5.out.gl; omega)).trans hx6
          have S7 := Lib.hid (S6.out.trans (s7.mono (Nat.le_of_lt HZ6.out)))
          obtain ⟨V, hVe, qV, sV, hx, hVz, hVk⟩ := rule_set q7 S7.out H5.out.gl hx7 (.int .i64 k7) (.string t7) (.slice A7 m7 cp7)
          have HV := Lib.hid (H5.out.call qV sV)
          have HSV := Lib.hid sV
          have HVE := Lib.hid hVe
          have HVZ := Lib.hid hVz
          have HVK := Lib.hid hVk
          have HZ7 := Lib.hid (Nat.lt_of_lt_of_le HZ6.out s7.size)
          have y1 : w7.cell? ⟨w5.heap.size, 1, none⟩ = some (.int .i64 0) := cell_of_row _ _ 1 _ _ (0, 0) hx7
          have y2 : w7.cell? ⟨w5.heap.size, 2, none⟩ = some (.string ⟨#[]⟩) := cell_of_row _ _ 2 _ _ (0, 0) hx7
          have y3 : w7.cell? ⟨w5.heap.size, 3, none⟩ = some (.slice none 0 0) := cell_of_row _ _ 3 _ _ (0, 0) hx7
          have yf := frozen_row hx7
          have e7 : w7.cell? ⟨p, 4, none⟩ = some (.int .i64 0) := (qat_codes q7).2.2.1
          have hne1 : w5.heap.size ≠ p := by have := H5.out.gl; omega
          have hne2 : p ≠ w5.heap.size := by have := H5.out.gl; omega
          have HND := Lib.hid ((hnd7.keep (W' := V) (Q := fun q => w5.heap.size + 1 ≤ q) (Nat.le_of_eq hVz.symm) fun q hq _ => ⟨by have := HZ6.out; omega, fun j => cell_same (hVk q (by have := HZ6.out; omega)) j⟩))
          clear hnd7
          clear q7 s7 hx7 hx6 qV sV hVe hVz hVk e6
          go_upto_if 93 with fail
          rw [← HVE.out]
          clear y1 y2 y3 yf e7
          have d4 : V.cell? ⟨p, 4, none⟩ = some (.int .i64 0) := (qat_codes HV.out.par).2.2.1
          go_wp2_with fail
          refine (KS.out _ HV.out.par).mono ?_
          rintro e w8 ⟨rfl, q8, s8⟩
          have hx8 := (s8.block _ (by rw [HVZ.out]; exact HZ7.out) (by have := H5.out.gl; omega)).trans hx
          have H8 := Lib.hid (HV.out.call q8 s8)
          have HN8 := Lib.hid (HND.out.sep s8 (by have := H5.out.gl; omega))
          have HLO := Lib.hid (show w5.heap.size + 1 ≤ w8.heap.size by have := s8.size; have := HVZ.out; have := HZ7.out; omega)
          have HOW := Lib.hid H5.out.items.own_lt
          have hgl5 := H5.out.gl
          clear q8 s8 hx d4 HV
          have HV := H8
          have hx := hx8
          clear hx8
          obtain ⟨vs, hv1, hv2, hvx, hv4⟩ := HV.out.items
          have HVR := Lib.hid hv2
          have d4 : w8.cell? ⟨p, 4, none⟩ = some (.int .i64 0) := (qat_codes HV.out.par).2.2.1
          obtain ⟨g0, g1, gf⟩ := HV.out.facts
          have k0 : w8.cell? ⟨w5.heap.size, 0, none⟩ = some (.string tk) := cell_of_row _ _ 0 _ _ (0, 0) hx
          have k1 : w8.cell? ⟨w5.heap.size, 1, none⟩ = some (.int .i64 k7) := cell_of_row _ _ 1 _ _ (0, 0) hx
          have k2 : w8.cell? ⟨w5.heap.size, 2, none⟩ = some (.string t7) := cell_of_row _ _ 2 _ _ (0, 0) hx
          have k3 : w8.cell? ⟨w5.heap.size, 3, none⟩ = some (.slice A7 m7 cp7) := cell_of_row _ _ 3 _ _ (0, 0) hx
          have hgl := HV.out.gl
          clear hv1 hv2 hvx hv4 hx
          go_wp2_with (at_builtin; refine wpList_append_lies _ rfl _ _ 31 rfl (p + 2) 68 i0 _ 4 64 Try.underlying31 hi0 hz0 hz1 hz2 rfl (by decide) (.slice A acc.length cp) acc.length (cells4 vs) rfl (HVR.out.alloc _) ⟨w8.heap.size, 0, none⟩ 1 1 [.string tk, .int .i64 k7, .string t7, .slice A7 m7 cp7] rfl rfl (Lx.row_new _ [.string tk, .int .i64 k7, .string t7, .slice A7 m7 cp7] _ _ rfl) (by simp [Value.oneCell']) (by decide) (by unfold maxLen; omega) (by omega) (by simp; omega) _ rfl ?_; intro gq cap' w9 hown9 hgrow9 hat9 hlt9; have hgb9 := (RpIn.grow (v := .slice (some ⟨gq, 0, none⟩) (acc.length + 1) cap') HV.out hgrow9).1.trans HV.out.gb; have u9 : w9.cell? ⟨p + 1, 1, none⟩ = some (.slice A acc.length cp) := cell_of_row _ _ 1 _ _ (0, 0) hgb9; have uf9 := frozen_row hgb9; have H9 := Lib.hid (HV.out.snoc (n := (tkAt ts i).text) (lo := w5.heap.size + 1) (by omega) HLO.out (fun k hk => by have := (HOW.out k hk).1; omega) HN8.out (fun vs2 hv2 => by rw [owns_uniq hv2 HVR.out, ← HTK.out]; exact hown9) hgrow9 hat9); clear hgb9 hown9 hgrow9 hat9 hlt9)
          go_roundw
          case rel => exact .inl ⟨f'', m + 1, cap', some ⟨gq, 0, none⟩, acc ++ [((tkAt ts i).text, t)], tx, RR, by omega, hm2, by simp; omega, HP2.out, HFI.out, H9.out⟩
          case measure =>
            rw [HMS.out, msP_is H9.out.par, if_pos rfl]
            omega
    case rest =>
      rcases hcut with ⟨i, cp, A, acc, tx, hl, hR, hL⟩ | ⟨l, c, k, i, d, hk, hR, hL⟩
      case inr =>
        obtain ⟨d2, d3, d4, df⟩ := qat_codes hL.par
        have en : ((k : Int) != 0) = true := by rw [bne_iff_ne]; omega
        obtain ⟨r0, r1, rf, z0, z1, z2, zf⟩ := hL.two.facts
        have hp := hL.hp
        have HLX := Lib.hid hL
        subst hR
        clear hL hk
        go_wp2_with fail
        go_region
        all_goals
          obtain ⟨u1, u2, u3, e1, e2, e3, u4⟩ := five_cells HLX.out.res HLX.out.flt (by omega) (.string ⟨#[]⟩) (.slice none 0 0) (.int .i64 l) (.int .i64 c) (.int .i64 k)
          have hbel : Below W.heap.size W _ := HLX.out.below.trans ⟨e1, e2, e3, Nat.le_of_eq u3.symm, fun b hb => u4 b (by omega) (by omega)⟩
          go_wp2
          exact bodyPost_ret (Lx.results_cells2 (P := Try.prog) rfl _ _ W.heap.size (W.heap.size + 1) 33 35 _ _ (0, 0) (0, 0) _ _ rfl u1 Try.underlying33 rfl rfl rfl u2 Try.underlying35 rfl rfl) rfl ⟨_, _, rfl, below_drew' hbel, rfl, rfl⟩
      subst hR
      have d4 := (qat_codes hL.par).2.2.1
      obtain ⟨g0, g1, gf⟩ := hL.facts
      have hp := hL.hp
      have hgl := hL.gl
      obtain ⟨A1, cap1, rr, fa, fb, fc, hA1, hA2, hA3, hA4⟩ := hL.items.rls
      injection hA1 with hA1 _ hA5
      subst hA1
      subst hA5
      obtain ⟨rfl, hrr, hrr2⟩ := hA3 hl
      obtain ⟨⟨r0, _, _, _⟩, _⟩ := hA4 0 hl
      simp only [Nat.zero_mul] at r0
      have hhd : (acc.headD ([], .node 0 [] [])).1 = acc[0].1 := by cases acc with | nil => simp at hl | cons a l => rfl
      have HL := Lib.hid hL
      have HHD := Lib.hid hhd
      have hl0 : (0 : Int) < (acc.length : Int) := by omega
      clear hL hA2 hA3 hA4 hhd
      by_cases htx : tx = []
      · have HTX := Lib.hid htx
        have es : (Lx.mk tx).toList.isEmpty = true := by rw [htx, Lib.toList_data]; rfl
        subst htx
        have HLN := Lib.hid (HL.out.name acc[0].1)
        obtain ⟨z0, z1, zf, y0, y1, y2, yf⟩ := HL.out.two.facts
        obtain ⟨u1, u2, u3, e1, e2, e3, u4⟩ := five_cells HLN.out.res HLN.out.flt (by omega) (.string (Lx.mk (acc[0].1))) (.slice (some ⟨rr, 0, none⟩) acc.length cp) (.int .i64 0) (.int .i64 0) (.int .i64 0)
        have hbel : Below W.heap.size W _ := HLN.out.below.trans ⟨e1, e2, e3, Nat.le_of_eq u3.symm, fun b hb => u4 b (by omega) (by omega)⟩
        have hrl := HLN.out.items.rls.keep (Q := fun q => W.heap.size ≤ q) (Nat.le_of_eq u3.symm) fun q hq _ => ⟨by omega, fun j => cell_same (u4 q (by omega) (by omega)) j⟩
        have U1 := Lib.hid u1
        have U2 := Lib.hid u2
        have HBEL := Lib.hid hbel
        have HGV := Lib.hid (gv_of hrl (show (if ([] : List UInt8) = [] then (acc.headD ([], .node 0 [] [])).1 else ([] : List UInt8)) = acc[0].1 by rw [if_pos rfl, HHD.out]))
        clear u1 u2 u3 e1 e2 e3 u4 hbel hrl
        go_wp2
        exact bodyPost_ret (Lx.results_cells2 (P := Try.prog) rfl _ _ W.heap.size (W.heap.size + 1) 33 35 _ _ (0, 0) (0, 0) _ _ rfl U1.out Try.underlying33 rfl rfl rfl U2.out Try.underlying35 rfl rfl) rfl ⟨_, _, rfl, HBEL.out, HGV.out, rfl⟩
      · have es : (Lx.mk tx).toList.isEmpty = false := by
          rw [Lib.toList_data]
          cases tx with
          | nil => exact absurd rfl htx
          | cons a l => rfl
        obtain ⟨z0, z1, zf, y0, y1, y2, yf⟩ := HL.out.two.facts
        obtain ⟨u1, u2, u3, e1, e2, e3, u4⟩ := five_cells HL.out.res HL.out.flt (by omega) (.string (Lx.mk (tx))) (.slice (some ⟨rr, 0, none⟩) acc.length cp) (.int .i64 0) (.int .i64 0) (.int .i64 0)
        have hbel : Below W.heap.size W _ := HL.out.below.trans ⟨e1, e2, e3, Nat.le_of_eq u3.symm, fun b hb => u4 b (by omega) (by omega)⟩
        have hrl := HL.out.items.rls.keep (Q := fun q => W.heap.size ≤ q) (Nat.le_of_eq u3.symm) fun q hq _ => ⟨by omega, fun j => cell_same (u4 q (by omega) (by omega)) j⟩
        have U1 := Lib.hid u1
        have U2 := Lib.hid u2
        have HBEL := Lib.hid hbel
        have HGV := Lib.hid (gv_of hrl (show (if tx = [] then (acc.headD ([], .node 0 [] [])).1 else tx) = tx by rw [if_neg htx]))
        clear u1 u2 u3 e1 e2 e3 u4 hbel hrl
        go_wp2
        exact bodyPost_ret (Lx.results_cells2 (P := Try.prog) rfl _ _ W.heap.size (W.heap.size + 1) 33 35 _ _ (0, 0) (0, 0) _ _ rfl U1.out Try.underlying33 rfl rfl rfl U2.out Try.underlying35 rfl rfl) rfl ⟨_, _, rfl, HBEL.out, HGV.out, rfl⟩
end Go.Proofs.Ytppdemdjlhdfcaa.Sx
