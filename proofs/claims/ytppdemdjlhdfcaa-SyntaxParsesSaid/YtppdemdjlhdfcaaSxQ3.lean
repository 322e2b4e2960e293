/-
  The walk of the law's node: a node of the program's as one of the document's.
  The plain parser's SameNode: the same tree twice.
  The plain parser's Same: the same grammar twice.
  The walk of the law's grammar: a grammar of the program's as one of the document's.
-/
import Derived.Test.YtppdemdjlhdfcaaSxQ1
import Derived.Test.YtppdemdjlhdfcaaSxProp
import Derived.Deep.CutBlock
import Derived.Test.YtppdemdjlhdfcaaSxQ2

namespace Go.Proofs.Ytppdemdjlhdfcaa.Sx
open Go.RowKit
open Lx (heap_lt own_block)
set_option maxRecDepth 100000

theorem Nd.retext {P : Nat → Prop} {W : World} {k : Nat} {tx : List UInt8} {l : List Tree} {x y z : Value} (h : Nd P W (.node k [] l) x y z) : Nd P W (.node k tx l) x (.string (Lx.mk tx)) z := by
  cases h with
  | mk _ _ _ A cap r a b c hA hcap hc hk => exact .mk k tx l A cap r a b c hA hcap hc hk
/-- Within node: n's box, the result's block, out's. -/
structure NoQ (W0 : World) (k : Nat) (tx : ByteArray) (z : Value) (W : World) (A : Option Addr) (cp : Nat) (acc : List Tree) : Prop where
  box : W.heap[W0.heap.size]? = some (.cells #[.int .i64 k, .string tx, z] 44 (0, 0))
  res : W.heap[W0.heap.size + 1]? = some (.cells #[.int .i64 0, .string ⟨#[]⟩, .slice none 0 0] 66 (0, 0))
  out : W.heap[W0.heap.size + 2]? = some (.cells #[.int .i64 k, .string tx, .slice A acc.length cp] 66 (0, 0))
  items : QItems (W0.heap.size + 3) (W0.heap.size + 2) W A cp acc
  below : Below W0.heap.size W0 W
section
variable {W0 W W' : World} {k : Nat} {tx : ByteArray} {z : Value} {A : Option Addr} {cp : Nat} {acc : List Tree}
theorem NoQ.call (h : NoQ W0 k tx z W A cp acc) (b : Below W.heap.size W W') : NoQ W0 k tx z W' A cp acc :=
  ⟨(b.block _ (heap_lt h.box)).trans h.box, (b.block _ (heap_lt h.res)).trans h.res, (b.block _ (heap_lt h.out)).trans h.out, h.items.keep b.size fun q _ _ hq => b.block q hq, h.below.trans (b.mono h.below.size)⟩
theorem NoQ.snoc {W1 w4 : World} {lo : Nat} {t : Tree} {x y z' : Value} {o : Obj} {gq cp' : Nat} (h : NoQ W0 k tx z W1 A cp acc) (hlo : W0.heap.size + 3 ≤ lo) (hlo2 : lo ≤ W1.heap.size) (hown : ∀ k, (Value.slice A acc.length cp).ownBlock = some k → k < lo) (hn : Nd (fun q => lo ≤ q) W1 t x y z')
    (hown4 : ∀ vs : List (Value × Value × Value), W1.ownsRow (W0.heap.size + 3) 66 3 (.slice A acc.length cp) acc.length (cells3 vs) → w4.ownsRow (W0.heap.size + 3) 66 3 (.slice (some ⟨gq, 0, none⟩) (acc.length + 1) cp') (acc.length + 1) (cells3 vs ++ [x, y, z']))
    (hgr : (W1.alloc o).grownBy w4 (Value.slice A acc.length cp).ownBlock) (hat : (Value.slice A acc.length cp).ownBlock = some gq ∨ gq = (W1.alloc o).heap.size) :
    NoQ W0 k tx z (w4.setCell ⟨W0.heap.size + 2, 2, none⟩ (.slice (some ⟨gq, 0, none⟩) (acc.length + 1) cp')) (some ⟨gq, 0, none⟩) cp' (acc ++ [t]) := by
  have hb := h.items.own_lt
  have hit := h.items.snoc hlo (by omega) hown hlo2 hn hown4 hgr hat
  have keep : ∀ k, k < W0.heap.size + 3 → w4.heap[k]? = W1.heap[k]? := fun k hk =>
    (hgr.block k (by simp; omega) (fun e => by have := (hb k e.symm).2; omega)).trans (heap_alloc_old W1 o (by omega))
  have hset : ∀ b, W0.heap.size + 2 ≠ b → (w4.setCell ⟨W0.heap.size + 2, 2, none⟩ (.slice (some ⟨gq, 0, none⟩) (acc.length + 1) cp')).heap[b]? = w4.heap[b]? := fun b hb => Lx.set_keep w4 2 _ hb
  have hszs : (w4.setCell ⟨W0.heap.size + 2, 2, none⟩ (.slice (some ⟨gq, 0, none⟩) (acc.length + 1) cp')).heap.size = w4.heap.size := by simp [World.setCell]
  have hsz4 : W1.heap.size + 1 ≤ w4.heap.size := by have := hgr.size; simp at this; omega
  refine ⟨((hset _ (by omega)).trans (keep _ (by omega))).trans h.box, ((hset _ (by omega)).trans (keep _ (by omega))).trans h.res, ?_, hit.keep (by rw [hszs]; exact Nat.le_refl _) (fun q _ hq _ => hset q (fun e => hq e.symm)), ?_⟩
  · have := Lx.heap_set ((keep _ (by omega)).trans h.out) 2 (.slice (some ⟨gq, 0, none⟩) (acc.length + 1) cp')
    rw [show (acc ++ [t]).length = acc.length + 1 by simp]
    exact this
  · have b0 : Below W0.heap.size W1 w4 := ⟨hgr.os, hgr.tape, hgr.output, by omega, fun q hq => keep q (by omega)⟩
    exact (h.below.trans b0).setCell (Nat.le_add_right _ _) _
theorem NoQ.facts (h : NoQ W0 k tx z W A cp acc) : W.cell? ⟨W0.heap.size, 0, none⟩ = some (.int .i64 k) ∧ W.cell? ⟨W0.heap.size, 1, none⟩ = some (.string tx) ∧ W.cell? ⟨W0.heap.size, 2, none⟩ = some z ∧
    W.cell? ⟨W0.heap.size + 2, 0, none⟩ = some (.int .i64 k) ∧ W.cell? ⟨W0.heap.size + 2, 1, none⟩ = some (.string tx) ∧ W.cell? ⟨W0.heap.size + 2, 2, none⟩ = some (.slice A acc.length cp) ∧ (∀ j, W.frozen? ⟨W0.heap.size + 2, j, none⟩ = false) ∧
    W.cell? ⟨W0.heap.size + 1, 0, none⟩ = some (.int .i64 0) ∧ W.cell? ⟨W0.heap.size + 1, 1, none⟩ = some (.string ⟨#[]⟩) ∧ W.cell? ⟨W0.heap.size + 1, 2, none⟩ = some (.slice none 0 0) ∧ ∀ j, W.frozen? ⟨W0.heap.size + 1, j, none⟩ = false :=
  ⟨cell_of_row _ _ 0 _ _ (0, 0) h.box, cell_of_row _ _ 1 _ _ (0, 0) h.box, cell_of_row _ _ 2 _ _ (0, 0) h.box, cell_of_row _ _ 0 _ _ (0, 0) h.out, cell_of_row _ _ 1 _ _ (0, 0) h.out, cell_of_row _ _ 2 _ _ (0, 0) h.out, frozen_qrow h.out, cell_of_row _ _ 0 _ _ (0, 0) h.res, cell_of_row _ _ 1 _ _ (0, 0) h.res, cell_of_row _ _ 2 _ _ (0, 0) h.res, frozen_qrow h.res⟩
end
/-- The same node, in memory of the call's own. -/
def Copied (t : Tree) (W : World) (e : Ending) (w' : World) : Prop := ∃ x y z, e = .returned (.agg #[x, y, z]) ∧ Nd (fun q => W.heap.size ≤ q) w' t x y z ∧ Below W.heap.size W w'
theorem no_done {W0 W : World} {k : Nat} {tx : List UInt8} {z : Value} {A : Option Addr} {cp : Nat} {acc : List Tree} (h : NoQ W0 k (Lx.mk tx) z W A cp acc) :
    Copied (.node k tx acc) W0 (.returned (.agg #[.int .i64 k, .string (Lx.mk tx), .slice A acc.length cp])) (((W.setCell ⟨W0.heap.size + 1, 0, none⟩ (.int .i64 k)).setCell ⟨W0.heap.size + 1, 1, none⟩ (.string (Lx.mk tx))).setCell ⟨W0.heap.size + 1, 2, none⟩ (.slice A acc.length cp)) := by
  refine ⟨_, _, _, rfl, ((h.items.node k).retext (tx := tx)).keep (by rw [res_size]; exact Nat.le_refl _) fun q hq _ => ⟨by omega, fun j => ?_⟩, ((h.below.setCell (Nat.le_add_right _ _) _).setCell (Nat.le_add_right _ _) _).setCell (Nat.le_add_right _ _) _⟩
  have := res_keep W (b := W0.heap.size + 1) (k := q) (.int .i64 k) (.string (Lx.mk tx)) (.slice A acc.length cp) (by omega)
  unfold World.cell?
  simp only [this]

set_option maxHeartbeats 8000000 in
theorem node_copy {t : Tree} (h : WeT t) : ∀ (P : Nat → Prop) (W : World) (x y z : Value), Nd P W t x y z → Calls Try.prog 21 #[.agg #[x, y, z]] W (Copied t W) := by
  induction h with
  | mk k tx l htx hlen hl ih =>
    intro P W x y z hnd
    obtain ⟨rfl, rfl, hz⟩ := hnd.open_
    obtain ⟨A0, cap0, r, a, b, c, rfl, hcap, h3, h4⟩ := hz
    have hdone := fun (W' : World) (A : Option Addr) (cp : Nat) (acc : List Tree) (h : NoQ W k (Lx.mk tx) (.slice A0 l.length cap0) W' A cp acc) => no_done h
    obtain ⟨s, hs1⟩ : ∃ s, s = Lx.mk tx := ⟨_, rfl⟩
    simp only [← hs1] at hdone ⊢
    have HD := Lib.hid hdone
    have hN : NoQ W k s (.slice A0 l.length cap0) (((W.alloc (.cells #[.int .i64 k, .string s, .slice A0 l.length cap0] 44)).alloc (.cells #[.int .i64 0, .string ⟨#[]⟩, .slice none 0 0] 66)).alloc (.cells #[.int .i64 k, .string s, .slice none 0 0] 66)) none 0 [] := by
      have b1 : Below W.heap.size W (W.alloc (.cells #[.int .i64 k, .string s, .slice A0 l.length cap0] 44)) := (Below.refl _ _).alloc (Nat.le_refl _) _
      have b2 := b1.alloc (by simp) (.cells #[.int .i64 0, .string ⟨#[]⟩, .slice none 0 0] 66)
      have b3 := b2.alloc (by simp; omega) (.cells #[.int .i64 k, .string s, .slice none 0 0] 66)
      have n1 := heap_alloc_new W (.cells #[.int .i64 k, .string s, .slice A0 l.length cap0] 44)
      have n2 := heap_alloc_new (W.alloc (.cells #[.int .i64 k, .string s, .slice A0 l.length cap0] 44)) (.cells #[.int .i64 0, .string ⟨#[]⟩, .slice none 0 0] 66)
      rw [heap_size_alloc'] at n2
      have n3 := heap_alloc_new ((W.alloc (.cells #[.int .i64 k, .string s, .slice A0 l.length cap0] 44)).alloc (.cells #[.int .i64 0, .string ⟨#[]⟩, .slice none 0 0] 66)) (.cells #[.int .i64 k, .string s, .slice none 0 0] 66)
      rw [heap_size_alloc', heap_size_alloc'] at n3
      exact ⟨(heap_alloc_old _ _ (by simp; omega)).trans ((heap_alloc_old _ _ (by simp)).trans n1), (heap_alloc_old _ _ (by simp)).trans n2, n3, QItems.nil _ _ _, b3⟩
    have HN := Lib.hid hN
    obtain ⟨n, hn1⟩ : ∃ n, n = l.length := ⟨_, rfl⟩
    rw [← hn1] at HN hcap h3 hlen ⊢
    simp only [← hn1] at HD
    have HN1 := Lib.hid hn1
    have H3 := Lib.hid h3
    have H4 := Lib.hid h4
    have HI := Lib.hid ih
    obtain ⟨i0, hi0, hz0, hz1, hz2⟩ := info_parts qninfo
    clear hN hdone hs1 h3 h4 ih hl hn1 hnd htx
    go_enter Try.func21, Try.ntmps21
    go_upto_block 0 with fail
    generalize hV : World.alloc (World.alloc (World.alloc W _) _) _ = V
    rw [hV] at HN
    clear hV
    rw [show W.heap.size + 1 + 1 = W.heap.size + 2 from rfl]
    go_wp2_with fail
    go_loopw [4] (fun i wr => ∃ (j cp : Nat) (A : Option Addr) (acc : List Tree), j ≤ n ∧ i = .int .i64 j ∧ acc = l.take j ∧ NoQ W k s (.slice A0 n cap0) wr A cp acc) (fun i _ => n - (intOf i).toNat)
    case atStart => exact ⟨0, 0, none, [], Nat.zero_le _, rfl, rfl, HN.out⟩
    case round =>
      obtain ⟨j, cp, A, acc, hj, rfl, hacc, hL⟩ := hrel
      have HAC := Lib.hid hacc
      have hal : acc.length ≤ n := by rw [hacc, List.length_take]; have := HN1.out; omega
      obtain ⟨m0, m1, m2, o0, o1, o2, of, z0, z1, z2, zf⟩ := hL.facts
      have HL := Lib.hid hL
      clear hacc hL
      by_cases hlt : j < n
      · have h1 : j < l.length := by rw [← HN1.out]; exact hlt
        obtain ⟨eA, hr, _⟩ := H3.out (by omega)
        subst eA
        obtain ⟨⟨x0, x1, x2⟩, hnd⟩ := H4.out j h1
        have HT1 := Lib.hid (show acc ++ [l[j]] = l.take (j + 1) by rw [HAC.out, List.take_succ_eq_append_getElem h1])
        have HHL := Lib.hid (show acc.length = j by rw [HAC.out, List.length_take]; omega)
        have KX := fun w (hw : Nd P w l[j] (a j) (b j) (c j)) => HI.out l[j] (List.getElem_mem h1) P w _ _ _ hw
        obtain ⟨ka, ta, Aa, na, ca, ea, eb, ec⟩ := hnd.form
        rw [ea, eb, ec] at hnd KX
        rw [ea] at x0
        rw [eb] at x1
        rw [ec] at x2
        have hbel := HL.out.below
        have y0 := (hbel.cell (p := ⟨r, j * 3, none⟩) hr).trans x0
        have y1 := (hbel.cell (p := ⟨r, j * 3 + 1, none⟩) hr).trans x1
        have y2 := (hbel.cell (p := ⟨r, j * 3 + 2, none⟩) hr).trans x2
        have HX := Lib.hid KX
        have HND := Lib.hid ((hnd.under hbel).keep (W' := wr.drew) (Q := P) (Nat.le_refl _) fun q hq _ => ⟨hq, fun _ => rfl⟩)
        have hLd : NoQ W k s (.slice (some ⟨r, 0, none⟩) n cap0) wr.drew A cp acc := ⟨HL.out.box, HL.out.res, HL.out.out, HL.out.items.keep (Nat.le_refl _) (fun _ _ _ _ => rfl), below_drew' HL.out.below⟩
        have HLD := Lib.hid hLd
        clear hLd
        have hjn : (j : Int) < (n : Int) := by omega
        have hsz := heap_lt HL.out.out
        have HSZ0 := Lib.hid hsz
        clear KX hnd ea eb ec x0 x1 x2 hbel m0 m1 o0 o1 z0 z1 z2 zf
        go_wp2_with fail
        go_region_law (first | (refine step_append_lies _ rfl (.tmp 18) (.tmp 25) 64 rfl (W.heap.size + 3) 66 i0 _ 3 48 Try.underlying64 hi0 hz0 hz1 hz2 rfl (by decide) (.slice A acc.length cp) acc.length (cells3 vs) (by simp [Act.eval]) (HV.out.alloc _) ⟨w3.heap.size, 0, none⟩ 1 1 [.int .i64 kb, .string tb, .slice Ab mb cb] (by simp [Act.eval]) rfl (Lx.row_new _ [.int .i64 kb, .string tb, .slice Ab mb cb] _ _ rfl) (by simp [Value.oneCell']) (by decide) (by unfold maxLen; omega) (by omega) (by simp; omega) _ rfl ?_; intro gq cap' w4 hown4 hgrow4 hat4 hlt4; have h4 := HL3.out.snoc (lo := wr.heap.size) HSZ0.out HS3.out (fun k hk => (HOL.out k hk).1) HN3.out (fun vs2 hv2 => by rw [owns_uniq hv2 HV.out]; exact hown4) hgrow4 hat4; have hnb4 := (hgrow4.block (W.heap.size + 2) (by simp; omega) (fun e => by have := (HL3.out.items.own_lt _ e.symm).2.2; omega)).trans ((heap_alloc_old w3 _ hnbs).trans HL3.out.out); have u2 : w4.cell? ⟨W.heap.size + 2, 2, none⟩ = some (.slice A acc.length cp) := cell_of_row _ _ 2 _ _ (0, 0) hnb4; have uf := frozen_qrow hnb4; clear hnb4; have H4 := Lib.hid h4; clear h4; clear hown4 hgrow4 hat4 hlt4) | (go_simp; go_at_call 21; refine (HX.out _ HND.out).mono ?_; rintro e w3 ⟨xa, xb, xc, rfl, hnk, hb3⟩; have hL3 := HLD.out.call hb3; obtain ⟨vs, hv1, hv2, hvx, hv4⟩ := hL3.items; have d2 : w3.cell? ⟨W.heap.size + 2, 2, none⟩ = some (.slice A acc.length cp) := hL3.facts.2.2.2.2.2.1; have hnbs := heap_lt hL3.out; have d2a := fun o : Obj => (((Below.refl w3.heap.size w3).alloc (Nat.le_refl _) o).cell (p := ⟨W.heap.size + 2, 2, none⟩) hnbs).trans d2; have hsz3 := hb3.size; obtain ⟨kb, tb, Ab, mb, cb, rfl, rfl, rfl⟩ := hnk.form; have HV := Lib.hid hv2; have HOL := Lib.hid HL.out.items.own_lt; have HL3 := Lib.hid hL3; have HN3 := Lib.hid hnk; have HS3 := Lib.hid hb3.size; clear hL3 hb3 hnk hv1 hv2 hvx hv4))
        all_goals
          go_wp2
          go_roundw
          case rel => exact ⟨j + 1, cap', some ⟨gq, 0, none⟩, acc ++ [l[j]'(by have := HN1.out; omega)], by omega, by simp, HT1.out, H4.out⟩
          case measure => simp [intOf]; omega
      · have HE := Lib.hid (show acc = l by rw [HAC.out, List.take_of_length_le (by have := HN1.out; omega)])
        have hjn : ¬ (j : Int) < (n : Int) := by omega
        have HRS := Lib.hid HL.out.res
        clear m0 m1
        go_wp2
        exact bodyPost_ret (results_cell_row rfl _ _ (W.heap.size + 1) 66 _ (0, 0) _ rfl (qres_done HRS.out _ _ _) Try.underlying66 rfl rfl) rfl (by rw [← HE.out]; exact HD.out _ _ _ _ HL.out)
end Go.Proofs.Ytppdemdjlhdfcaa.Sx

namespace Go.Proofs.Ytppdemdjlhdfcaa.Sx
open Go.RowKit
open Lx (heap_lt own_block)
set_option maxRecDepth 100000

structure SaQ (W0 : World) (k : Nat) (tx : ByteArray) (z z' : Value) (W : World) : Prop where
  box1 : W.heap[W0.heap.size]? = some (.cells #[.int .i64 k, .string tx, z] 66 (0, 0))
  box2 : W.heap[W0.heap.size + 1]? = some (.cells #[.int .i64 k, .string tx, z'] 66 (0, 0))
  below : Below W0.heap.size W0 W
theorem SaQ.call {W0 W W' : World} {k : Nat} {tx : ByteArray} {z z' : Value} (h : SaQ W0 k tx z z' W) (b : Below W.heap.size W W') : SaQ W0 k tx z z' W' :=
  ⟨(b.block _ (heap_lt h.box1)).trans h.box1, (b.block _ (heap_lt h.box2)).trans h.box2, h.below.trans (b.mono h.below.size)⟩
theorem SaQ.start (W : World) (k : Nat) (tx : ByteArray) (z z' : Value) : SaQ W k tx z z' ((W.alloc (.cells #[.int .i64 k, .string tx, z] 66)).alloc (.cells #[.int .i64 k, .string tx, z'] 66)) := by
  have n2 := heap_alloc_new (W.alloc (.cells #[.int .i64 k, .string tx, z] 66)) (.cells #[.int .i64 k, .string tx, z'] 66)
  rw [heap_size_alloc'] at n2
  exact ⟨(heap_alloc_old _ _ (by simp)).trans (heap_alloc_new W _), n2, ((Below.refl _ _).alloc (Nat.le_refl _) _).alloc (by simp) _⟩

set_option maxHeartbeats 8000000 in
theorem sameq_node {t : Tree} (h : WeT t) : ∀ (P P' : Nat → Prop) (W : World) (x y z x' y' z' : Value), Nd P W t x y z → Nd P' W t x' y' z' → Calls Try.prog 20 #[.agg #[x, y, z], .agg #[x', y', z']] W (Asks true W) := by
  induction h with
  | mk k tx l htx hlen hl ih =>
    intro P P' W x y z x' y' z' hnd hnd'
    obtain ⟨rfl, rfl, hz⟩ := hnd.open_
    obtain ⟨rfl, rfl, hz'⟩ := hnd'.open_
    obtain ⟨A, cap, r, a, b, c, rfl, hcap, h3, h4⟩ := hz
    obtain ⟨A', cap', r', a', b', c', rfl, hcap', h3', h4'⟩ := hz'
    obtain ⟨s, hs1⟩ : ∃ s, s = Lx.mk tx := ⟨_, rfl⟩
    rw [← hs1]
    have hS := SaQ.start W k s (.slice A l.length cap) (.slice A' l.length cap')
    obtain ⟨n, hn1⟩ : ∃ n, n = l.length := ⟨_, rfl⟩
    rw [← hn1] at hS hcap hcap' h3 h3' hlen ⊢
    have HS := Lib.hid hS
    have HN1 := Lib.hid hn1
    have H3 := Lib.hid h3
    have H4 := Lib.hid h4
    have H3' := Lib.hid h3'
    have H4' := Lib.hid h4'
    have HI := Lib.hid ih
    have e0 : ((n : Int) != (n : Int)) = false := by simp
    have ek : ((k : Int) != (k : Int)) = false := by simp
    have es : (s.toList != s.toList) = false := by simp
    clear hS hs1 h3 h4 h3' h4' ih hl hn1 hnd hnd' htx
    go_enter Try.func20, Try.ntmps20
    go_upto_block 0 with fail
    generalize hV : World.alloc (World.alloc W _) _ = V
    rw [hV] at HS
    clear hV
    go_wp2_with fail
    go_loopw [5] (fun i wr => ∃ j : Nat, j ≤ n ∧ i = .int .i64 j ∧ SaQ W k s (.slice A n cap) (.slice A' n cap') wr) (fun i _ => n - (intOf i).toNat)
    case atStart => exact ⟨0, Nat.zero_le _, rfl, HS.out⟩
    case round =>
      obtain ⟨j, hj, rfl, hL⟩ := hrel
      have m2 : wr.cell? ⟨W.heap.size, 2, none⟩ = some (.slice A n cap) := cell_of_row _ _ 2 _ _ (0, 0) hL.box1
      have o2 : wr.cell? ⟨W.heap.size + 1, 2, none⟩ = some (.slice A' n cap') := cell_of_row _ _ 2 _ _ (0, 0) hL.box2
      have HL := Lib.hid hL
      clear hL
      by_cases hlt : j < n
      · have h1 : j < l.length := by rw [← HN1.out]; exact hlt
        obtain ⟨eA, hr, _⟩ := H3.out (by omega)
        obtain ⟨eA', hr', _⟩ := H3'.out (by omega)
        subst eA
        subst eA'
        obtain ⟨⟨x0, x1, x2⟩, hnd⟩ := H4.out j h1
        obtain ⟨⟨y0, y1, y2⟩, hnd'⟩ := H4'.out j h1
        have KX := fun w (hw : Nd P w l[j] (a j) (b j) (c j)) (hw' : Nd P' w l[j] (a' j) (b' j) (c' j)) => HI.out l[j] (List.getElem_mem h1) P P' w _ _ _ _ _ _ hw hw'
        obtain ⟨ka, ta, Aa, na, ca, ea, eb, ec⟩ := hnd.form
        obtain ⟨kb, tb, Ab, nb, cb, fa, fb, fc⟩ := hnd'.form
        rw [ea, eb, ec] at hnd
        rw [fa, fb, fc] at hnd'
        rw [ea, eb, ec, fa, fb, fc] at KX
        rw [ea] at x0; rw [eb] at x1; rw [ec] at x2
        rw [fa] at y0; rw [fb] at y1; rw [fc] at y2
        have hbel := HL.out.below
        have X0 := (hbel.cell (p := ⟨r, j * 3, none⟩) hr).trans x0
        have X1 := (hbel.cell (p := ⟨r, j * 3 + 1, none⟩) hr).trans x1
        have X2 := (hbel.cell (p := ⟨r, j * 3 + 2, none⟩) hr).trans x2
        have Y0 := (hbel.cell (p := ⟨r', j * 3, none⟩) hr').trans y0
        have Y1 := (hbel.cell (p := ⟨r', j * 3 + 1, none⟩) hr').trans y1
        have Y2 := (hbel.cell (p := ⟨r', j * 3 + 2, none⟩) hr').trans y2
        have HX := Lib.hid KX
        have HND := Lib.hid ((hnd.under hbel).keep (W' := wr.drew) (Q := P) (Nat.le_refl _) fun q hq _ => ⟨hq, fun _ => rfl⟩)
        have HND' := Lib.hid ((hnd'.under hbel).keep (W' := wr.drew) (Q := P') (Nat.le_refl _) fun q hq _ => ⟨hq, fun _ => rfl⟩)
        have hLd : SaQ W k s (.slice (some ⟨r, 0, none⟩) n cap) (.slice (some ⟨r', 0, none⟩) n cap') wr.drew := ⟨HL.out.box1, HL.out.box2, below_drew' HL.out.below⟩
        have HLD := Lib.hid hLd
        have hjn : (j : Int) < (n : Int) := by omega
        clear hLd KX hnd hnd' ea eb ec fa fb fc x0 x1 x2 y0 y1 y2 hbel
        go_wp2_with fail
        go_region_law (first | (go_simp; go_at_call 20; refine (HX.out _ HND.out HND'.out).mono ?_; rintro e w3 ⟨rfl, hb3⟩; have H4q := Lib.hid (HLD.out.call hb3); clear hb3))
        all_goals
          go_wp2
          go_roundw
          case rel => exact ⟨j + 1, by omega, by simp, H4q.out⟩
          case measure => simp [intOf]; omega
      · have hjn : ¬ (j : Int) < (n : Int) := by omega
        go_wp2
        go_ret
        exact ⟨rfl, HL.out.below⟩
end Go.Proofs.Ytppdemdjlhdfcaa.Sx

namespace Go.Proofs.Ytppdemdjlhdfcaa.Sx
open Go.RowKit
open Lx (heap_lt own_block)
set_option maxRecDepth 100000

structure SgQ (W0 : World) (tx : ByteArray) (z z' : Value) (W : World) : Prop where
  box1 : W.heap[W0.heap.size]? = some (.cells #[.string tx, z] 33 (0, 0))
  box2 : W.heap[W0.heap.size + 1]? = some (.cells #[.string tx, z'] 33 (0, 0))
  below : Below W0.heap.size W0 W
theorem SgQ.call {W0 W W' : World} {tx : ByteArray} {z z' : Value} (h : SgQ W0 tx z z' W) (b : Below W.heap.size W W') : SgQ W0 tx z z' W' :=
  ⟨(b.block _ (heap_lt h.box1)).trans h.box1, (b.block _ (heap_lt h.box2)).trans h.box2, h.below.trans (b.mono h.below.size)⟩
theorem SgQ.start (W : World) (tx : ByteArray) (z z' : Value) : SgQ W tx z z' ((W.alloc (.cells #[.string tx, z] 33)).alloc (.cells #[.string tx, z'] 33)) := by
  have n2 := heap_alloc_new (W.alloc (.cells #[.string tx, z] 33)) (.cells #[.string tx, z'] 33)
  rw [heap_size_alloc'] at n2
  exact ⟨(heap_alloc_old _ _ (by simp)).trans (heap_alloc_new W _), n2, ((Below.refl _ _).alloc (Nat.le_refl _) _).alloc (by simp) _⟩

set_option maxHeartbeats 8000000 in
theorem sameq_any (tx : List UInt8) (l : List Rul) (hlen : l.length ≤ 1048576) (hw : ∀ r ∈ l, WeT r.2) (P P' : Nat → Prop) (W : World) (v v' : Value) (h : RlsAt P W l v) (h' : RlsAt P' W l v') : Calls Try.prog 7 #[.agg #[.string (Lx.mk tx), v], .agg #[.string (Lx.mk tx), v']] W (Asks true W) := by
    obtain ⟨A, cap, r, a, b, c, rfl, hcap, h3, h4⟩ := h
    obtain ⟨A', cap', r', a', b', c', rfl, hcap', h3', h4'⟩ := h'
    obtain ⟨s, hs1⟩ : ∃ s, s = Lx.mk tx := ⟨_, rfl⟩
    rw [← hs1]
    have hS := SgQ.start W s (.slice A l.length cap) (.slice A' l.length cap')
    obtain ⟨n, hn1⟩ : ∃ n, n = l.length := ⟨_, rfl⟩
    rw [← hn1] at hS hcap hcap' h3 h3' hlen ⊢
    have HS := Lib.hid hS
    have HN1 := Lib.hid hn1
    have H3 := Lib.hid h3
    have H4 := Lib.hid h4
    have H3' := Lib.hid h3'
    have H4' := Lib.hid h4'
    have HW := Lib.hid hw
    have e0 : ((n : Int) != (n : Int)) = false := by simp
    have es : (s.toList != s.toList) = false := by simp
    clear hS hs1 h3 h4 h3' h4' hn1 hw
    go_enter Try.func7, Try.ntmps7
    go_upto_block 0 with fail
    generalize hV : World.alloc (World.alloc W _) _ = V
    rw [hV] at HS
    clear hV
    go_wp2_with fail
    go_loopw [5] (fun i wr => ∃ j : Nat, j ≤ n ∧ i = .int .i64 j ∧ SgQ W s (.slice A n cap) (.slice A' n cap') wr) (fun i _ => n - (intOf i).toNat)
    case atStart => exact ⟨0, Nat.zero_le _, rfl, HS.out⟩
    case round =>
      obtain ⟨j, hj, rfl, hL⟩ := hrel
      have m2 : wr.cell? ⟨W.heap.size, 1, none⟩ = some (.slice A n cap) := cell_of_row _ _ 1 _ _ (0, 0) hL.box1
      have o2 : wr.cell? ⟨W.heap.size + 1, 1, none⟩ = some (.slice A' n cap') := cell_of_row _ _ 1 _ _ (0, 0) hL.box2
      have HL := Lib.hid hL
      clear hL
      by_cases hlt : j < n
      · have h1 : j < l.length := by rw [← HN1.out]; exact hlt
        obtain ⟨eA, hr, _⟩ := H3.out (by omega)
        obtain ⟨eA', hr', _⟩ := H3'.out (by omega)
        subst eA
        subst eA'
        obtain ⟨⟨w0, x0, x1, x2⟩, hnd⟩ := H4.out j h1
        obtain ⟨⟨w0', y0, y1, y2⟩, hnd'⟩ := H4'.out j h1
        have KX := fun w (hw : Nd P w l[j].2 (a j) (b j) (c j)) (hw' : Nd P' w l[j].2 (a' j) (b' j) (c' j)) => sameq_node (HW.out l[j] (List.getElem_mem h1)) P P' w _ _ _ _ _ _ hw hw'
        obtain ⟨u, hu⟩ : ∃ u, u = Lx.mk l[j].1 := ⟨_, rfl⟩
        rw [← hu] at w0 w0'
        have eu : (u.toList != u.toList) = false := by simp
        obtain ⟨ka, ta, Aa, na, ca, ea, eb, ec⟩ := hnd.form
        obtain ⟨kb, tb, Ab, nb, cb, fa, fb, fc⟩ := hnd'.form
        rw [ea, eb, ec] at hnd
        rw [fa, fb, fc] at hnd'
        rw [ea, eb, ec, fa, fb, fc] at KX
        rw [ea] at x0; rw [eb] at x1; rw [ec] at x2
        rw [fa] at y0; rw [fb] at y1; rw [fc] at y2
        have hbel := HL.out.below
        have U0 := (hbel.cell (p := ⟨r, j * 4, none⟩) hr).trans w0
        have U1 := (hbel.cell (p := ⟨r', j * 4, none⟩) hr').trans w0'
        have X0 := (hbel.cell (p := ⟨r, j * 4 + 1, none⟩) hr).trans x0
        have X1 := (hbel.cell (p := ⟨r, j * 4 + 2, none⟩) hr).trans x1
        have X2 := (hbel.cell (p := ⟨r, j * 4 + 3, none⟩) hr).trans x2
        have Y0 := (hbel.cell (p := ⟨r', j * 4 + 1, none⟩) hr').trans y0
        have Y1 := (hbel.cell (p := ⟨r', j * 4 + 2, none⟩) hr').trans y1
        have Y2 := (hbel.cell (p := ⟨r', j * 4 + 3, none⟩) hr').trans y2
        have HX := Lib.hid KX
        have HND := Lib.hid ((hnd.under hbel).keep (W' := wr.drew) (Q := P) (Nat.le_refl _) fun q hq _ => ⟨hq, fun _ => rfl⟩)
        have HND' := Lib.hid ((hnd'.under hbel).keep (W' := wr.drew) (Q := P') (Nat.le_refl _) fun q hq _ => ⟨hq, fun _ => rfl⟩)
        have hLd : SgQ W s (.slice (some ⟨r, 0, none⟩) n cap) (.slice (some ⟨r', 0, none⟩) n cap') wr.drew := ⟨HL.out.box1, HL.out.box2, below_drew' HL.out.below⟩
        have HLD := Lib.hid hLd
        have hjn : (j : Int) < (n : Int) := by omega
        have HB1 := Lib.hid (heap_lt HL.out.box1)
        have HB2 := Lib.hid (heap_lt HL.out.box2)
        have HRL := Lib.hid (Nat.lt_of_lt_of_le hr hbel.size)
        have HRL2 := Lib.hid (Nat.lt_of_lt_of_le hr' hbel.size)
        clear hLd KX hnd hnd' ea eb ec fa fb fc x0 x1 x2 y0 y1 y2 hbel w0 w0' hu
        go_wp2_with fail
        go_region_held3 (fun W' => W'.cell? ⟨W.heap.size, 1, none⟩ = some (.slice (some ⟨r, 0, none⟩) n cap) ∧ W'.cell? ⟨W.heap.size + 1, 1, none⟩ = some (.slice (some ⟨r', 0, none⟩) n cap') ∧ W'.cell? ⟨r, j * 4, none⟩ = some (.string u) ∧ W'.cell? ⟨r', j * 4, none⟩ = some (.string u) ∧ W'.cell? ⟨r, j * 4 + 1, none⟩ = some (.int .i64 ka) ∧ W'.cell? ⟨r, j * 4 + 2, none⟩ = some (.string ta) ∧ W'.cell? ⟨r, j * 4 + 3, none⟩ = some (.slice Aa na ca) ∧ W'.cell? ⟨r', j * 4 + 1, none⟩ = some (.int .i64 kb) ∧ W'.cell? ⟨r', j * 4 + 2, none⟩ = some (.string tb) ∧ W'.cell? ⟨r', j * 4 + 3, none⟩ = some (.slice Ab nb cb)) (first | exact ⟨m2, o2, U0, U1, X0, X1, X2, Y0, Y1, Y2⟩ | exact ⟨(hb3.cell (p := ⟨W.heap.size, 1, none⟩) HB1.out).trans m2, (hb3.cell (p := ⟨W.heap.size + 1, 1, none⟩) HB2.out).trans o2, (hb3.cell (p := ⟨r, j * 4, none⟩) HRL.out).trans U0, (hb3.cell (p := ⟨r', j * 4, none⟩) HRL2.out).trans U1, (hb3.cell (p := ⟨r, j * 4 + 1, none⟩) HRL.out).trans X0, (hb3.cell (p := ⟨r, j * 4 + 2, none⟩) HRL.out).trans X1, (hb3.cell (p := ⟨r, j * 4 + 3, none⟩) HRL.out).trans X2, (hb3.cell (p := ⟨r', j * 4 + 1, none⟩) HRL2.out).trans Y0, (hb3.cell (p := ⟨r', j * 4 + 2, none⟩) HRL2.out).trans Y1, (hb3.cell (p := ⟨r', j * 4 + 3, none⟩) HRL2.out).trans Y2⟩) (first | (go_at_call 20; refine (HX.out _ HND.out HND'.out).mono ?_; rintro e w3 ⟨rfl, hb3⟩))
        all_goals
          have H4q := Lib.hid (HLD.out.call hb3)
          clear hb3
          go_wp2
          go_roundw
          case rel => exact ⟨j + 1, by omega, by simp, H4q.out⟩
          case measure => simp [intOf]; omega
      · have hjn : ¬ (j : Int) < (n : Int) := by omega
        go_wp2
        go_ret
        exact ⟨rfl, HL.out.below⟩
end Go.Proofs.Ytppdemdjlhdfcaa.Sx

namespace Go.Proofs.Ytppdemdjlhdfcaa.Sx
open Go.RowKit
open Lx (heap_lt own_block)
set_option maxRecDepth 100000
set_option linter.unusedSimpArgs false

/-- Within grammar: g's box, the result's block, out's. -/
structure GoQ (W0 : World) (tx : ByteArray) (z : Value) (W : World) (A : Option Addr) (cp : Nat) (acc : List Rul) : Prop where
  box : W.heap[W0.heap.size]? = some (.cells #[.string tx, z] 25 (0, 0))
  res : W.heap[W0.heap.size + 1]? = some (.cells #[.string ⟨#[]⟩, .slice none 0 0] 33 (0, 0))
  out : W.heap[W0.heap.size + 2]? = some (.cells #[.string tx, .slice A acc.length cp] 33 (0, 0))
  items : QRItems (W0.heap.size + 3) (W0.heap.size + 2) W A cp acc
  below : Below W0.heap.size W0 W
section
variable {W0 W W' : World} {tx : ByteArray} {z : Value} {A : Option Addr} {cp : Nat} {acc : List Rul}
theorem GoQ.call (h : GoQ W0 tx z W A cp acc) (b : Below W.heap.size W W') : GoQ W0 tx z W' A cp acc :=
  ⟨(b.block _ (heap_lt h.box)).trans h.box, (b.block _ (heap_lt h.res)).trans h.res, (b.block _ (heap_lt h.out)).trans h.out, h.items.keep b.size fun q _ _ hq => b.block q hq, h.below.trans (b.mono h.below.size)⟩
theorem GoQ.snoc {W1 w4 : World} {lo : Nat} {n : List UInt8} {u : ByteArray} {t : Tree} {x y z' : Value} {o : Obj} {gq cp' : Nat} (h : GoQ W0 tx z W1 A cp acc) (hu : u = Lx.mk n) (hlo : W0.heap.size + 3 ≤ lo) (hlo2 : lo ≤ W1.heap.size) (hown : ∀ k, (Value.slice A acc.length cp).ownBlock = some k → k < lo) (hn : Nd (fun q => lo ≤ q) W1 t x y z')
    (hown4 : ∀ vs : List (Value × Value × Value × Value), W1.ownsRow (W0.heap.size + 3) 68 4 (.slice A acc.length cp) acc.length (cells4 vs) → w4.ownsRow (W0.heap.size + 3) 68 4 (.slice (some ⟨gq, 0, none⟩) (acc.length + 1) cp') (acc.length + 1) (cells4 vs ++ [.string u, x, y, z']))
    (hgr : (W1.alloc o).grownBy w4 (Value.slice A acc.length cp).ownBlock) (hat : (Value.slice A acc.length cp).ownBlock = some gq ∨ gq = (W1.alloc o).heap.size) :
    GoQ W0 tx z (w4.setCell ⟨W0.heap.size + 2, 1, none⟩ (.slice (some ⟨gq, 0, none⟩) (acc.length + 1) cp')) (some ⟨gq, 0, none⟩) cp' (acc ++ [(n, t)]) := by
  subst hu
  have hb := h.items.own_lt
  have hit := h.items.snoc hlo (by omega) hown hlo2 hn hown4 hgr hat
  have keep : ∀ k, k < W0.heap.size + 3 → w4.heap[k]? = W1.heap[k]? := fun k hk =>
    (hgr.block k (by simp; omega) (fun e => by have := (hb k e.symm).2; omega)).trans (heap_alloc_old W1 o (by omega))
  have hset : ∀ b, W0.heap.size + 2 ≠ b → (w4.setCell ⟨W0.heap.size + 2, 1, none⟩ (.slice (some ⟨gq, 0, none⟩) (acc.length + 1) cp')).heap[b]? = w4.heap[b]? := fun b hb => Lx.set_keep w4 1 _ hb
  have hszs : (w4.setCell ⟨W0.heap.size + 2, 1, none⟩ (.slice (some ⟨gq, 0, none⟩) (acc.length + 1) cp')).heap.size = w4.heap.size := by simp [World.setCell]
  have hsz4 : W1.heap.size + 1 ≤ w4.heap.size := by have := hgr.size; simp at this; omega
  refine ⟨((hset _ (by omega)).trans (keep _ (by omega))).trans h.box, ((hset _ (by omega)).trans (keep _ (by omega))).trans h.res, ?_, hit.keep (by rw [hszs]; exact Nat.le_refl _) (fun q _ hq _ => hset q (fun e => hq e.symm)), ?_⟩
  · have := Lx.heap_set ((keep _ (by omega)).trans h.out) 1 (.slice (some ⟨gq, 0, none⟩) (acc.length + 1) cp')
    rw [show (acc ++ [(n, t)]).length = acc.length + 1 by simp]
    exact this
  · have b0 : Below W0.heap.size W1 w4 := ⟨hgr.os, hgr.tape, hgr.output, by omega, fun q hq => keep q (by omega)⟩
    exact (h.below.trans b0).setCell (Nat.le_add_right _ _) _
end
/-- The same grammar, in memory of the call's own. -/
def CopiedG (s : ByteArray) (l : List Rul) (W : World) (e : Ending) (w' : World) : Prop := ∃ v, e = .returned (.agg #[.string s, v]) ∧ RlsAt (fun q => W.heap.size ≤ q) w' l v ∧ Below W.heap.size W w'
theorem go_done {W0 W : World} {tx : ByteArray} {z : Value} {A : Option Addr} {cp : Nat} {acc : List Rul} (h : GoQ W0 tx z W A cp acc) :
    CopiedG tx acc W0 (.returned (.agg #[.string tx, .slice A acc.length cp])) ((W.setCell ⟨W0.heap.size + 1, 0, none⟩ (.string tx)).setCell ⟨W0.heap.size + 1, 1, none⟩ (.slice A acc.length cp)) := by
  refine ⟨_, rfl, h.items.rls.keep (by simp [World.setCell]) fun q hq _ => ⟨by omega, fun j => ?_⟩, (h.below.setCell (Nat.le_add_right _ _) _).setCell (Nat.le_add_right _ _) _⟩
  have := (Lx.set_keep (W.setCell ⟨W0.heap.size + 1, 0, none⟩ (.string tx)) 1 (.slice A acc.length cp) (show W0.heap.size + 1 ≠ q by omega)).trans (Lx.set_keep W 0 (.string tx) (show W0.heap.size + 1 ≠ q by omega))
  unfold World.cell?
  simp only [this]
theorem cell_same {w w' : World} {b : Nat} (h : w'.heap[b]? = w.heap[b]?) (j : Nat) : w'.cell? ⟨b, j, none⟩ = w.cell? ⟨b, j, none⟩ := by
  unfold World.cell?
  simp only [h]
theorem gres_done {w3 : World} {b : Nat} {u v : Value} (h : w3.heap[b]? = some (.cells #[u, v] 33 (0, 0))) (x y : Value) : ((w3.setCell ⟨b, 0, none⟩ x).setCell ⟨b, 1, none⟩ y).heap[b]? = some (.cells #[x, y] 33 (0, 0)) :=
  Lx.heap_set (Lx.heap_set h 0 _) 1 _
theorem GoQ.start (W : World) (s : ByteArray) (z : Value) : GoQ W s z (((W.alloc (.cells #[.string s, z] 25)).alloc (.cells #[.string ⟨#[]⟩, .slice none 0 0] 33)).alloc (.cells #[.string s, .slice none 0 0] 33)) none 0 [] := by
  have b1 : Below W.heap.size W (W.alloc (.cells #[.string s, z] 25)) := (Below.refl _ _).alloc (Nat.le_refl _) _
  have b2 := b1.alloc (by simp) (.cells #[.string ⟨#[]⟩, .slice none 0 0] 33)
  have b3 := b2.alloc (by simp; omega) (.cells #[.string s, .slice none 0 0] 33)
  have n1 := heap_alloc_new W (.cells #[.string s, z] 25)
  have n2 := heap_alloc_new (W.alloc (.cells #[.string s, z] 25)) (.cells #[.string ⟨#[]⟩, .slice none 0 0] 33)
  rw [heap_size_alloc'] at n2
  have n3 := heap_alloc_new ((W.alloc (.cells #[.string s, z] 25)).alloc (.cells #[.string ⟨#[]⟩, .slice none 0 0] 33)) (.cells #[.string s, .slice none 0 0] 33)
  rw [heap_size_alloc', heap_size_alloc'] at n3
  exact ⟨(heap_alloc_old _ _ (by simp; omega)).trans ((heap_alloc_old _ _ (by simp)).trans n1), (heap_alloc_old _ _ (by simp)).trans n2, n3, QRItems.nil _ _ _, b3⟩

set_option maxHeartbeats 8000000 in
theorem gram_copy (tx : List UInt8) (l : List Rul) (hlen : l.length ≤ 1048576) (hw : ∀ r ∈ l, WeT r.2) (P : Nat → Prop) (W : World) (v : Value) (h : RlsAt P W l v) : Calls Try.prog 8 #[.agg #[.string (Lx.mk tx), v]] W (CopiedG (Lx.mk tx) l W) := by
    obtain ⟨A0, cap0, r, a, b, c, rfl, hcap, h3, h4⟩ := h
    obtain ⟨s, hs1⟩ : ∃ s, s = Lx.mk tx := ⟨_, rfl⟩
    rw [← hs1]
    have hN := GoQ.start W s (.slice A0 l.length cap0)
    obtain ⟨n, hn1⟩ : ∃ n, n = l.length := ⟨_, rfl⟩
    rw [← hn1] at hN hcap h3 hlen ⊢
    have HN := Lib.hid hN
    have HN1 := Lib.hid hn1
    have H3 := Lib.hid h3
    have H4 := Lib.hid h4
    have HW := Lib.hid hw
    obtain ⟨i0, hi0, hz0, hz1, hz2⟩ := info_parts qruinfo
    clear hN hs1 h3 h4 hw hn1
    go_enter Try.func8, Try.ntmps8
    go_upto_block 0 with fail
    generalize hV : World.alloc (World.alloc (World.alloc W _) _) _ = V
    rw [hV] at HN
    clear hV
    rw [show W.heap.size + 1 + 1 = W.heap.size + 2 from rfl]
    go_wp2_with fail
    go_loopw [4] (fun i wr => ∃ (j cp : Nat) (A : Option Addr) (acc : List Rul), j ≤ n ∧ i = .int .i64 j ∧ acc = l.take j ∧ GoQ W s (.slice A0 n cap0) wr A cp acc) (fun i _ => n - (intOf i).toNat)
    case atStart => exact ⟨0, 0, none, [], Nat.zero_le _, rfl, rfl, HN.out⟩
    case round =>
      obtain ⟨j, cp, A, acc, hj, rfl, hacc, hL⟩ := hrel
      have HAC := Lib.hid hacc
      have hal : acc.length ≤ n := by rw [hacc, List.length_take]; have := HN1.out; omega
      have m1 : wr.cell? ⟨W.heap.size, 1, none⟩ = some (.slice A0 n cap0) := cell_of_row _ _ 1 _ _ (0, 0) hL.box
      have o0 : wr.cell? ⟨W.heap.size + 2, 0, none⟩ = some (.string s) := cell_of_row _ _ 0 _ _ (0, 0) hL.out
      have o1 : wr.cell? ⟨W.heap.size + 2, 1, none⟩ = some (.slice A acc.length cp) := cell_of_row _ _ 1 _ _ (0, 0) hL.out
      have HL := Lib.hid hL
      clear hacc hL
      by_cases hlt : j < n
      · have h1 : j < l.length := by rw [← HN1.out]; exact hlt
        obtain ⟨eA, hr, _⟩ := H3.out (by omega)
        subst eA
        obtain ⟨⟨w0, x0, x1, x2⟩, hnd⟩ := H4.out j h1
        have HT1 := Lib.hid (show acc ++ [(l[j].1, l[j].2)] = l.take (j + 1) by rw [HAC.out, List.take_succ_eq_append_getElem h1])
        have KX := fun w (hw : Nd P w l[j].2 (a j) (b j) (c j)) => node_copy (HW.out l[j] (List.getElem_mem h1)) P w _ _ _ hw
        obtain ⟨u, hu⟩ : ∃ u, u = Lx.mk l[j].1 := ⟨_, rfl⟩
        rw [← hu] at w0
        have HU := Lib.hid hu
        obtain ⟨ka, ta, Aa, na, ca, ea, eb, ec⟩ := hnd.form
        rw [ea, eb, ec] at hnd KX
        rw [ea] at x0; rw [eb] at x1; rw [ec] at x2
        have hbel := HL.out.below
        have y := (hbel.cell (p := ⟨r, j * 4, none⟩) hr).trans w0
        have y0 := (hbel.cell (p := ⟨r, j * 4 + 1, none⟩) hr).trans x0
        have y1 := (hbel.cell (p := ⟨r, j * 4 + 2, none⟩) hr).trans x1
        have y2 := (hbel.cell (p := ⟨r, j * 4 + 3, none⟩) hr).trans x2
        have HR0 := Lib.hid hr
        have HX := Lib.hid KX
        have HND := Lib.hid ((hnd.under hbel).keep (W' := wr.drew) (Q := P) (Nat.le_refl _) fun q hq _ => ⟨hq, fun _ => rfl⟩)
        have hLd : GoQ W s (.slice (some ⟨r, 0, none⟩) n cap0) wr.drew A cp acc := ⟨HL.out.box, HL.out.res, HL.out.out, HL.out.items.keep (Nat.le_refl _) (fun _ _ _ _ => rfl), below_drew' HL.out.below⟩
        have HLD := Lib.hid hLd
        have hjn : (j : Int) < (n : Int) := by omega
        have hsz := heap_lt HL.out.out
        have HSZ0 := Lib.hid hsz
        clear hLd KX hnd ea eb ec x0 x1 x2 hbel o0 w0 hu
        have HKW := Lib.hid (fun (w' : World) (hw : ∀ b, b < W.heap.size + 1 → w'.heap[b]? = wr.heap[b]?) => (⟨(cell_same (hw _ (by omega)) _).trans m1, (cell_same (hw _ (by have := HR0.out; omega)) _).trans y, (cell_same (hw _ (by have := HR0.out; omega)) _).trans y0, (cell_same (hw _ (by have := HR0.out; omega)) _).trans y1, (cell_same (hw _ (by have := HR0.out; omega)) _).trans y2⟩ : w'.cell? ⟨W.heap.size, 1, none⟩ = some (.slice (some ⟨r, 0, none⟩) n cap0) ∧ w'.cell? ⟨r, j * 4, none⟩ = some (.string u) ∧ w'.cell? ⟨r, j * 4 + 1, none⟩ = some (.int .i64 ka) ∧ w'.cell? ⟨r, j * 4 + 2, none⟩ = some (.string ta) ∧ w'.cell? ⟨r, j * 4 + 3, none⟩ = some (.slice Aa na ca)))
        go_wp2_with fail
        refine wp_region_noPanic ?_
        refine wp_region_held_drew (S := (fun W' => W'.cell? ⟨W.heap.size, 1, none⟩ = some (.slice (some ⟨r, 0, none⟩) n cap0) ∧ W'.cell? ⟨r, j * 4, none⟩ = some (.string u) ∧ W'.cell? ⟨r, j * 4 + 1, none⟩ = some (.int .i64 ka) ∧ W'.cell? ⟨r, j * 4 + 2, none⟩ = some (.string ta) ∧ W'.cell? ⟨r, j * 4 + 3, none⟩ = some (.slice Aa na ca))) (by kernel_rfl) ?_ (fun hHeld => ?_)
        · exact ⟨m1, y, y0, y1, y2⟩
        refine wpAnyH_take (i := 0) (v := ?_) rfl (by kernel_rfl) (by kernel_rfl) (by kernel_rfl) (fun _ _ _ h => h) (Or.inl ⟨by rfl, ?_⟩) (by assumption) ?_
        rotate_left
        · intro w hSw
          try dsimp only at hSw
          go_simp
          try with_reducible rfl
        try simp only [Act.put, List.setIfInBounds_toArray, List.set_cons_zero, List.set_cons_succ]
        refine wpAnyH_take (i := 2) (v := ?_) rfl (by kernel_rfl) (by kernel_rfl) (by kernel_rfl) (fun _ _ _ h => h) (Or.inl ⟨by rfl, ?_⟩) (by assumption) ?_
        rotate_left
        · intro w hSw
          try dsimp only at hSw
          go_simp
          try with_reducible rfl
        try simp only [Act.put, List.setIfInBounds_toArray, List.set_cons_zero, List.set_cons_succ]
        refine wpAnyH_take (i := 3) (v := ?_) rfl (by kernel_rfl) (by kernel_rfl) (by kernel_rfl) (fun _ _ _ h => h) (Or.inl ⟨by rfl, ?_⟩) (by assumption) ?_
        rotate_left
        · intro w hSw
          try dsimp only at hSw
          go_simp
          try with_reducible rfl
        try simp only [Act.put, List.setIfInBounds_toArray, List.set_cons_zero, List.set_cons_succ]
        refine wpAnyH_take (i := 4) (v := ?_) rfl (by kernel_rfl) (by kernel_rfl) (by kernel_rfl) (fun _ _ _ h => h) (Or.inl ⟨by rfl, ?_⟩) (by assumption) ?_
        rotate_left
        · intro w hSw
          try dsimp only at hSw
          go_simp
          try with_reducible rfl
        try simp only [Act.put, List.setIfInBounds_toArray, List.set_cons_zero, List.set_cons_succ]
        refine wpAnyH_take (i := 5) (v := ?_) rfl (by kernel_rfl) (by kernel_rfl) (by kernel_rfl) (fun _ _ _ h => h) (Or.inl ⟨by rfl, ?_⟩) (by assumption) ?_
        rotate_left
        · intro w hSw
          try dsimp only at hSw
          go_simp
          try with_reducible rfl
        try simp only [Act.put, List.setIfInBounds_toArray, List.set_cons_zero, List.set_cons_succ]
        refine wpAnyH_take (i := 6) (v := ?_) rfl (by kernel_rfl) (by kernel_rfl) (by kernel_rfl) (fun _ _ _ h => h) (Or.inl ⟨by rfl, ?_⟩) (by assumption) ?_
        rotate_left
        · intro w hSw
          try dsimp only at hSw
          go_simp
          try with_reducible rfl
        try simp only [Act.put, List.setIfInBounds_toArray, List.set_cons_zero, List.set_cons_succ]
        refine wpAnyH_take (i := 7) (v := ?_) rfl (by kernel_rfl) (by kernel_rfl) (by kernel_rfl) (fun _ _ _ h => h) (Or.inl ⟨by rfl, ?_⟩) (by assumption) ?_
        rotate_left
        · intro w hSw
          try dsimp only at hSw
          go_simp
          try with_reducible rfl
        try simp only [Act.put, List.setIfInBounds_toArray, List.set_cons_zero, List.set_cons_succ]
        refine wpAnyH_take (i := 8) (v := ?_) rfl (by kernel_rfl) (by kernel_rfl) (by kernel_rfl) (fun _ _ _ h => h) (Or.inl ⟨by rfl, ?_⟩) (by assumption) ?_
        rotate_left
        · intro w hSw
          try dsimp only at hSw
          go_simp
          try with_reducible rfl
        try simp only [Act.put, List.setIfInBounds_toArray, List.set_cons_zero, List.set_cons_succ]
        refine wpAnyH_take (i := 9) (v := ?_) rfl (by kernel_rfl) (by kernel_rfl) (by kernel_rfl) (fun _ _ _ h => h) (Or.inl ⟨by rfl, ?_⟩) (by assumption) ?_
        rotate_left
        · intro w hSw
          try dsimp only at hSw
          go_simp
          try with_reducible rfl
        try simp only [Act.put, List.setIfInBounds_toArray, List.set_cons_zero, List.set_cons_succ]
        refine wpAnyH_take (i := 10) (v := ?_) rfl (by kernel_rfl) (by kernel_rfl) (by kernel_rfl) (fun _ _ _ h => h) (Or.inl ⟨by rfl, ?_⟩) (by assumption) ?_
        rotate_left
        · intro w hSw
          try dsimp only at hSw
          go_simp
          try with_reducible rfl
        try simp only [Act.put, List.setIfInBounds_toArray, List.set_cons_zero, List.set_cons_succ]
        refine wpAnyH_take (i := 11) (v := ?_) rfl (by kernel_rfl) (by kernel_rfl) (by kernel_rfl) (fun _ _ _ h => h) (Or.inl ⟨by rfl, ?_⟩) (by assumption) ?_
        rotate_left
        · intro w hSw
          try dsimp only at hSw
          go_simp
          try with_reducible rfl
        try simp only [Act.put, List.setIfInBounds_toArray, List.set_cons_zero, List.set_cons_succ]
        refine wpAnyH_take (i := 12) (v := ?_) rfl (by kernel_rfl) (by kernel_rfl) (by kernel_rfl) (fun _ _ _ h => h) (Or.inl ⟨by rfl, ?_⟩) (by assumption) ?_
        rotate_left
        · intro w hSw
          try dsimp only at hSw
          go_simp
          try with_reducible rfl
        try simp only [Act.put, List.setIfInBounds_toArray, List.set_cons_zero, List.set_cons_succ]
        refine wpAnyH_take (i := 13) (v := ?_) rfl (by kernel_rfl) (by kernel_rfl) (by kernel_rfl) (fun _ _ _ h => h) (Or.inl ⟨by rfl, ?_⟩) (by assumption) ?_
        rotate_left
        · intro w hSw
          try dsimp only at hSw
          go_simp
          try with_reducible rfl
        try simp only [Act.put, List.setIfInBounds_toArray, List.set_cons_zero, List.set_cons_succ]
        refine wpAnyH_ready (rs := [1, 14]) (by kernel_rfl) (by simp) ?_
        refine AllReadyH.cons rfl (fun K hK => ?_) ?_
        · go_simp
          refine hK.out _ _ (by assumption) (fun hHeld => ?_)
          clear hK K
          try simp only [Act.put, List.setIfInBounds_toArray, List.set_cons_zero, List.set_cons_succ]
          refine wpAnyH_ready (rs := [14]) (by kernel_rfl) (by simp) ?_
          refine AllReadyH.cons rfl (fun K hK => ?_) AllReadyH.nil
          go_simp
          go_at_call 21
          refine (HX.out _ HND.out).mono ?_
          rintro e w3 ⟨xa, xb, xc, rfl, hnk, hb3⟩
          have hL3 := HLD.out.call hb3
          obtain ⟨vs, hv1, hv2, hvx, hv4⟩ := hL3.items
          have d2 : w3.cell? ⟨W.heap.size + 2, 1, none⟩ = some (.slice A acc.length cp) := cell_of_row _ _ 1 _ _ (0, 0) hL3.out
          have hnbs := heap_lt hL3.out
          have d2a := fun o : Obj => (((Below.refl w3.heap.size w3).alloc (Nat.le_refl _) o).cell (p := ⟨W.heap.size + 2, 1, none⟩) hnbs).trans d2
          have hsz3 : wr.heap.size ≤ w3.heap.size := hb3.size
          obtain ⟨kb, tb, Ab, mb, cb, rfl, rfl, rfl⟩ := hnk.form
          have HK3 := Lib.hid (fun b (hb : b < W.heap.size + 1) => hb3.block b (show b < wr.heap.size by have := HSZ0.out; omega))
          have HL3S := Lib.hid (fun b (hb : b < W.heap.size + 1) => (show b < w3.heap.size by omega))
          have HV := Lib.hid hv2
          have HOL := Lib.hid HL.out.items.own_lt
          have HL3 := Lib.hid hL3
          have HN3 := Lib.hid hnk
          have HS3 := Lib.hid hb3.size
          clear hL3 hb3 hnk hv1 hv2 hvx hv4
          refine hK.out _ _ (HKW.out _ HK3.out) (fun hHeld => ?_)
          clear hK K
          try simp only [Act.put, List.setIfInBounds_toArray, List.set_cons_zero, List.set_cons_succ]
          refine wpAnyH_take (i := 15) (v := ?_) rfl (by kernel_rfl) (by kernel_rfl) (by kernel_rfl) (fun _ _ _ h => h) (Or.inl ⟨by rfl, ?_⟩) (by assumption) ?_
          rotate_left
          · intro w hSw
            try dsimp only at hSw
            go_simp
            try with_reducible rfl
          try simp only [Act.put, List.setIfInBounds_toArray, List.set_cons_zero, List.set_cons_succ]
          refine wpAnyH_ready (rs := [16]) (by kernel_rfl) (by simp) ?_
          refine AllReadyH.cons rfl (fun K hK => ?_) AllReadyH.nil
          go_simp
          refine hK.out _ _ (HKW.out _ (fun b hb => (heap_alloc_old _ _ (HL3S.out b hb)).trans (HK3.out b hb))) (fun hHeld => ?_)
          clear hK K
          try simp only [Act.put, List.setIfInBounds_toArray, List.set_cons_zero, List.set_cons_succ]
          refine wpAnyH_ready (rs := [17]) (by kernel_rfl) (by simp) ?_
          refine AllReadyH.cons rfl (fun K hK => ?_) AllReadyH.nil
          refine step_append_lies _ (by rfl) (.tmp 16) (.tmp 31) 31 (by rfl) (W.heap.size + 3) 68 i0 _ 4 64 Try.underlying31 hi0 hz0 hz1 hz2 rfl (by decide) (.slice A acc.length cp) acc.length (cells4 vs) (by simp [Act.eval]) (HV.out.alloc _) ⟨w3.heap.size, 0, none⟩ 1 1 [.string u, .int .i64 kb, .string tb, .slice Ab mb cb] (by simp [Act.eval]) rfl (Lx.row_new _ [.string u, .int .i64 kb, .string tb, .slice Ab mb cb] _ _ rfl) (by simp [Value.oneCell']) (by decide) (by unfold maxLen; omega) (by omega) (by simp; omega) _ rfl ?_
          intro gq cap' w4 hown4 hgrow4 hat4 hlt4
          have h4 := HL3.out.snoc (lo := wr.heap.size) HU.out HSZ0.out HS3.out (fun k hk => (HOL.out k hk).1) HN3.out (fun vs2 hv2 => by rw [owns_uniq hv2 HV.out]; exact hown4) hgrow4 hat4
          have hnb4 := (hgrow4.block (W.heap.size + 2) (by simp; omega) (fun e => by have := (HL3.out.items.own_lt _ e.symm).2.2; omega)).trans ((heap_alloc_old w3 _ hnbs).trans HL3.out.out)
          have HK4 := Lib.hid (fun b (hb : b < W.heap.size + 1) => (hgrow4.block b (by simp; omega) (fun e => by have := (HL3.out.items.own_lt _ e.symm).2.1; omega)).trans ((heap_alloc_old w3 _ (HL3S.out b hb)).trans (HK3.out b hb)))
          have u2 : w4.cell? ⟨W.heap.size + 2, 1, none⟩ = some (.slice A acc.length cp) := cell_of_row _ _ 1 _ _ (0, 0) hnb4
          have uf := frozen_qrow hnb4
          clear hnb4
          have H4 := Lib.hid h4
          clear h4
          clear hown4 hgrow4 hat4 hlt4
          refine hK.out _ _ (HKW.out _ HK4.out) (fun hHeld => ?_)
          clear hK K
          try simp only [Act.put, List.setIfInBounds_toArray, List.set_cons_zero, List.set_cons_succ]
          refine wpAnyH_take (i := 18) (v := ?_) rfl (by kernel_rfl) (by kernel_rfl) (by kernel_rfl) (fun _ _ _ h => h) (Or.inl ⟨by rfl, ?_⟩) (by assumption) ?_
          rotate_left
          · intro w hSw
            try dsimp only at hSw
            go_simp
            try with_reducible rfl
          try simp only [Act.put, List.setIfInBounds_toArray, List.set_cons_zero, List.set_cons_succ]
          refine wpAnyH_ready (rs := [19]) (by kernel_rfl) (by simp) ?_
          refine AllReadyH.cons rfl (fun K hK => ?_) AllReadyH.nil
          go_simp
          refine hK.out _ _ (HKW.out _ (fun b hb => (Lx.set_keep _ 1 _ (by omega)).trans (HK4.out b hb))) (fun hHeld => ?_)
          clear hK K
          try simp only [Act.put, List.setIfInBounds_toArray, List.set_cons_zero, List.set_cons_succ]
          refine wpAnyH_done (by kernel_rfl) ?_ _
          refine NoPanic.normal ?_
          go_wp2
          go_roundw
          case rel => exact ⟨j + 1, cap', some ⟨gq, 0, none⟩, acc ++ [((l[j]'(by have := HN1.out; omega)).1, (l[j]'(by have := HN1.out; omega)).2)], by omega, by simp, HT1.out, H4.out⟩
          case measure => simp [intOf]; omega
        refine AllReadyH.cons rfl (fun K hK => ?_) AllReadyH.nil
        · go_simp
          go_at_call 21
          refine (HX.out _ HND.out).mono ?_
          rintro e w3 ⟨xa, xb, xc, rfl, hnk, hb3⟩
          have hL3 := HLD.out.call hb3
          obtain ⟨vs, hv1, hv2, hvx, hv4⟩ := hL3.items
          have d2 : w3.cell? ⟨W.heap.size + 2, 1, none⟩ = some (.slice A acc.length cp) := cell_of_row _ _ 1 _ _ (0, 0) hL3.out
          have hnbs := heap_lt hL3.out
          have d2a := fun o : Obj => (((Below.refl w3.heap.size w3).alloc (Nat.le_refl _) o).cell (p := ⟨W.heap.size + 2, 1, none⟩) hnbs).trans d2
          have hsz3 : wr.heap.size ≤ w3.heap.size := hb3.size
          obtain ⟨kb, tb, Ab, mb, cb, rfl, rfl, rfl⟩ := hnk.form
          have HK3 := Lib.hid (fun b (hb : b < W.heap.size + 1) => hb3.block b (show b < wr.heap.size by have := HSZ0.out; omega))
          have HL3S := Lib.hid (fun b (hb : b < W.heap.size + 1) => (show b < w3.heap.size by omega))
          have HV := Lib.hid hv2
          have HOL := Lib.hid HL.out.items.own_lt
          have HL3 := Lib.hid hL3
          have HN3 := Lib.hid hnk
          have HS3 := Lib.hid hb3.size
          clear hL3 hb3 hnk hv1 hv2 hvx hv4
          refine hK.out _ _ (HKW.out _ HK3.out) (fun hHeld => ?_)
          clear hK K
          try simp only [Act.put, List.setIfInBounds_toArray, List.set_cons_zero, List.set_cons_succ]
          refine wpAnyH_take (i := 15) (v := ?_) rfl (by kernel_rfl) (by kernel_rfl) (by kernel_rfl) (fun _ _ _ h => h) (Or.inl ⟨by rfl, ?_⟩) (by assumption) ?_
          rotate_left
          · intro w hSw
            try dsimp only at hSw
            go_simp
            try with_reducible rfl
          try simp only [Act.put, List.setIfInBounds_toArray, List.set_cons_zero, List.set_cons_succ]
          refine wpAnyH_ready (rs := [1, 16]) (by kernel_rfl) (by simp) ?_
          refine AllReadyH.cons rfl (fun K hK => ?_) ?_
          · go_simp
            refine hK.out _ _ (HKW.out _ HK3.out) (fun hHeld => ?_)
            clear hK K
            try simp only [Act.put, List.setIfInBounds_toArray, List.set_cons_zero, List.set_cons_succ]
            refine wpAnyH_ready (rs := [16]) (by kernel_rfl) (by simp) ?_
            refine AllReadyH.cons rfl (fun K hK => ?_) AllReadyH.nil
            go_simp
            refine hK.out _ _ (HKW.out _ (fun b hb => (heap_alloc_old _ _ (HL3S.out b hb)).trans (HK3.out b hb))) (fun hHeld => ?_)
            clear hK K
            try simp only [Act.put, List.setIfInBounds_toArray, List.set_cons_zero, List.set_cons_succ]
            refine wpAnyH_ready (rs := [17]) (by kernel_rfl) (by simp) ?_
            refine AllReadyH.cons rfl (fun K hK => ?_) AllReadyH.nil
            refine step_append_lies _ (by rfl) (.tmp 16) (.tmp 31) 31 (by rfl) (W.heap.size + 3) 68 i0 _ 4 64 Try.underlying31 hi0 hz0 hz1 hz2 rfl (by decide) (.slice A acc.length cp) acc.length (cells4 vs) (by simp [Act.eval]) (HV.out.alloc _) ⟨w3.heap.size, 0, none⟩ 1 1 [.string u, .int .i64 kb, .string tb, .slice Ab mb cb] (by simp [Act.eval]) rfl (Lx.row_new _ [.string u, .int .i64 kb, .string tb, .slice Ab mb cb] _ _ rfl) (by simp [Value.oneCell']) (by decide) (by unfold maxLen; omega) (by omega) (by simp; omega) _ rfl ?_
            intro gq cap' w4 hown4 hgrow4 hat4 hlt4
            have h4 := HL3.out.snoc (lo := wr.heap.size) HU.out HSZ0.out HS3.out (fun k hk => (HOL.out k hk).1) HN3.out (fun vs2 hv2 => by rw [owns_uniq hv2 HV.out]; exact hown4) hgrow4 hat4
            have hnb4 := (hgrow4.block (W.heap.size + 2) (by simp; omega) (fun e => by have := (HL3.out.items.own_lt _ e.symm).2.2; omega)).trans ((heap_alloc_old w3 _ hnbs).trans HL3.out.out)
            have HK4 := Lib.hid (fun b (hb : b < W.heap.size + 1) => (hgrow4.block b (by simp; omega) (fun e => by have := (HL3.out.items.own_lt _ e.symm).2.1; omega)).trans ((heap_alloc_old w3 _ (HL3S.out b hb)).trans (HK3.out b hb)))
            have u2 : w4.cell? ⟨W.heap.size + 2, 1, none⟩ = some (.slice A acc.length cp) := cell_of_row _ _ 1 _ _ (0, 0) hnb4
            have uf := frozen_qrow hnb4
            clear hnb4
            have H4 := Lib.hid h4
            clear h4
            clear hown4 hgrow4 hat4 hlt4
            refine hK.out _ _ (HKW.out _ HK4.out) (fun hHeld => ?_)
            clear hK K
            try simp only [Act.put, List.setIfInBounds_toArray, List.set_cons_zero, List.set_cons_succ]
            refine wpAnyH_take (i := 18) (v := ?_) rfl (by kernel_rfl) (by kernel_rfl) (by kernel_rfl) (fun _ _ _ h => h) (Or.inl ⟨by rfl, ?_⟩) (by assumption) ?_
            rotate_left
            · intro w hSw
              try dsimp only at hSw
              go_simp
              try with_reducible rfl
            try simp only [Act.put, List.setIfInBounds_toArray, List.set_cons_zero, List.set_cons_succ]
            refine wpAnyH_ready (rs := [19]) (by kernel_rfl) (by simp) ?_
            refine AllReadyH.cons rfl (fun K hK => ?_) AllReadyH.nil
            go_simp
            refine hK.out _ _ (HKW.out _ (fun b hb => (Lx.set_keep _ 1 _ (by omega)).trans (HK4.out b hb))) (fun hHeld => ?_)
            clear hK K
            try simp only [Act.put, List.setIfInBounds_toArray, List.set_cons_zero, List.set_cons_succ]
            refine wpAnyH_done (by kernel_rfl) ?_ _
            refine NoPanic.normal ?_
            go_wp2
            go_roundw
            case rel => exact ⟨j + 1, cap', some ⟨gq, 0, none⟩, acc ++ [((l[j]'(by have := HN1.out; omega)).1, (l[j]'(by have := HN1.out; omega)).2)], by omega, by simp, HT1.out, H4.out⟩
            case measure => simp [intOf]; omega
          refine AllReadyH.cons rfl (fun K hK => ?_) AllReadyH.nil
          · go_simp
            refine hK.out _ _ (HKW.out _ (fun b hb => (heap_alloc_old _ _ (HL3S.out b hb)).trans (HK3.out b hb))) (fun hHeld => ?_)
            clear hK K
            try simp only [Act.put, List.setIfInBounds_toArray, List.set_cons_zero, List.set_cons_succ]
            refine wpAnyH_ready (rs := [1]) (by kernel_rfl) (by simp) ?_
            refine AllReadyH.cons rfl (fun K hK => ?_) AllReadyH.nil
            go_simp
            refine hK.out _ _ (HKW.out _ (fun b hb => (heap_alloc_old _ _ (HL3S.out b hb)).trans (HK3.out b hb))) (fun hHeld => ?_)
            clear hK K
            try simp only [Act.put, List.setIfInBounds_toArray, List.set_cons_zero, List.set_cons_succ]
            refine wpAnyH_ready (rs := [17]) (by kernel_rfl) (by simp) ?_
            refine AllReadyH.cons rfl (fun K hK => ?_) AllReadyH.nil
            refine step_append_lies _ (by rfl) (.tmp 16) (.tmp 31) 31 (by rfl) (W.heap.size + 3) 68 i0 _ 4 64 Try.underlying31 hi0 hz0 hz1 hz2 rfl (by decide) (.slice A acc.length cp) acc.length (cells4 vs) (by simp [Act.eval]) (HV.out.alloc _) ⟨w3.heap.size, 0, none⟩ 1 1 [.string u, .int .i64 kb, .string tb, .slice Ab mb cb] (by simp [Act.eval]) rfl (Lx.row_new _ [.string u, .int .i64 kb, .string tb, .slice Ab mb cb] _ _ rfl) (by simp [Value.oneCell']) (by decide) (by unfold maxLen; omega) (by omega) (by simp; omega) _ rfl ?_
            intro gq cap' w4 hown4 hgrow4 hat4 hlt4
            have h4 := HL3.out.snoc (lo := wr.heap.size) HU.out HSZ0.out HS3.out (fun k hk => (HOL.out k hk).1) HN3.out (fun vs2 hv2 => by rw [owns_uniq hv2 HV.out]; exact hown4) hgrow4 hat4
            have hnb4 := (hgrow4.block (W.heap.size + 2) (by simp; omega) (fun e => by have := (HL3.out.items.own_lt _ e.symm).2.2; omega)).trans ((heap_alloc_old w3 _ hnbs).trans HL3.out.out)
            have HK4 := Lib.hid (fun b (hb : b < W.heap.size + 1) => (hgrow4.block b (by simp; omega) (fun e => by have := (HL3.out.items.own_lt _ e.symm).2.1; omega)).trans ((heap_alloc_old w3 _ (HL3S.out b hb)).trans (HK3.out b hb)))
            have u2 : w4.cell? ⟨W.heap.size + 2, 1, none⟩ = some (.slice A acc.length cp) := cell_of_row _ _ 1 _ _ (0, 0) hnb4
            have uf := frozen_qrow hnb4
            clear hnb4
            have H4 := Lib.hid h4
            clear h4
            clear hown4 hgrow4 hat4 hlt4
            refine hK.out _ _ (HKW.out _ HK4.out) (fun hHeld => ?_)
            clear hK K
            try simp only [Act.put, List.setIfInBounds_toArray, List.set_cons_zero, List.set_cons_succ]
            refine wpAnyH_take (i := 18) (v := ?_) rfl (by kernel_rfl) (by kernel_rfl) (by kernel_rfl) (fun _ _ _ h => h) (Or.inl ⟨by rfl, ?_⟩) (by assumption) ?_
            rotate_left
            · intro w hSw
              try dsimp only at hSw
              go_simp
              try with_reducible rfl
            try simp only [Act.put, List.setIfInBounds_toArray, List.set_cons_zero, List.set_cons_succ]
            refine wpAnyH_ready (rs := [19]) (by kernel_rfl) (by simp) ?_
            refine AllReadyH.cons rfl (fun K hK => ?_) AllReadyH.nil
            go_simp
            refine hK.out _ _ (HKW.out _ (fun b hb => (Lx.set_keep _ 1 _ (by omega)).trans (HK4.out b hb))) (fun hHeld => ?_)
            clear hK K
            try simp only [Act.put, List.setIfInBounds_toArray, List.set_cons_zero, List.set_cons_succ]
            refine wpAnyH_done (by kernel_rfl) ?_ _
            refine NoPanic.normal ?_
            go_wp2
            go_roundw
            case rel => exact ⟨j + 1, cap', some ⟨gq, 0, none⟩, acc ++ [((l[j]'(by have := HN1.out; omega)).1, (l[j]'(by have := HN1.out; omega)).2)], by omega, by simp, HT1.out, H4.out⟩
            case measure => simp [intOf]; omega
      · have HE := Lib.hid (show acc = l by rw [HAC.out, List.take_of_length_le (by have := HN1.out; omega)])
        have hjn : ¬ (j : Int) < (n : Int) := by omega
        have HRS := Lib.hid HL.out.res
        have g0 : wr.cell? ⟨W.heap.size + 1, 0, none⟩ = some (.string ⟨#[]⟩) := cell_of_row _ _ 0 _ _ (0, 0) HL.out.res
        have g1 : wr.cell? ⟨W.heap.size + 1, 1, none⟩ = some (.slice none 0 0) := cell_of_row _ _ 1 _ _ (0, 0) HL.out.res
        have gf := frozen_qrow HL.out.res
        go_wp2
        exact bodyPost_ret (results_cell_row rfl _ _ (W.heap.size + 1) 33 _ (0, 0) _ rfl (gres_done HRS.out _ _) Try.underlying33 rfl rfl) rfl (by rw [← HE.out]; exact go_done HL.out)

end Go.Proofs.Ytppdemdjlhdfcaa.Sx
