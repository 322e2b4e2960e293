/-
  The walk of alternation, by the contract of row.
-/
import Derived.Test.YtakihbjfkpebcaaSxPars3
import Derived.Laws.Rows
namespace Go.Proofs.Ytakihbjfkpebcaa.Sx
open Go.RowKit
open Lx (Tk Toks)
set_option maxRecDepth 100000

/-- A node is told, all of it new. -/
def NV (lo : Nat) : Tree → Value → World → Prop := fun t x w' => ∃ a b c, x = .agg #[a, b, c] ∧ Nd (fun r => lo ≤ r) w' t a b c
/-- A function of the parser's is the plain one. -/
def Ctr (F : FuncId) (ts : List Tk) (p : Nat → Nat → Option (Res Tree)) : Prop :=
  ∀ (W : World) (g r cap i d : Nat) (R : Res Tree), PAt W g r ts cap i d → i < ts.length → d ≤ 16 → p d i = some R → Calls Try.prog F #[.pointer (some ⟨g, 0, none⟩)] W (Out W g r ts cap d R (NV W.heap.size))

/-- Where a parser is. -/
def atOf (W : World) (g : Nat) : Nat := match W.cell? ⟨g, 1, none⟩ with | some (.int .i64 n) => n.toNat | _ => 0
theorem atOf_is {W : World} {g r : Nat} {ts : List Tk} {cap i d : Nat} (h : PAt W g r ts cap i d) : atOf W g = i := by
  rw [atOf, h.facts.2.1]; simp

/-- The block of a result that is a node, still empty. -/
def ZAt (W : World) (b : Nat) : Prop := W.heap[b]? = some (.cells #[.int .i64 0, .string ⟨#[]⟩, .slice none 0 0] 63 (0, 0))
theorem ZAt.facts {W : World} {b : Nat} (h : ZAt W b) : W.cell? ⟨b, 0, none⟩ = some (.int .i64 0) ∧ W.cell? ⟨b, 1, none⟩ = some (.string ⟨#[]⟩) ∧ W.cell? ⟨b, 2, none⟩ = some (.slice none 0 0) ∧ ∀ j, W.frozen? ⟨b, j, none⟩ = false :=
  ⟨cell_of_row _ _ 0 _ _ (0, 0) h, cell_of_row _ _ 1 _ _ (0, 0) h, cell_of_row _ _ 2 _ _ (0, 0) h, fun j => by have h' := h; unfold ZAt at h'; simp [World.frozen?, h']⟩

/-- Within alternation or row: the items so far, the parser, the result's block. -/
structure LoopAt (W0 : World) (ts : List Tk) (g r cap d : Nat) (W : World) (A : Option Addr) (cp : Nat) (acc : List Tree) (i : Nat) : Prop where
  items : Items (W0.heap.size + 1) W A cp acc
  par : PAt W g r ts cap i d
  res : ZAt W W0.heap.size
  sep : Lx.Sep g W0.heap.size W0 W
  size : W0.heap.size + 1 ≤ W.heap.size
/-- A call of the parser's keeps them. -/
theorem LoopAt.call {W0 : World} {ts : List Tk} {g r cap d : Nat} {W W' : World} {A : Option Addr} {cp : Nat} {acc : List Tree} {i j : Nat} (h : LoopAt W0 ts g r cap d W A cp acc i) (hg : g < W0.heap.size) (p : PAt W' g r ts cap j d) (s : Lx.Sep g W.heap.size W W') : LoopAt W0 ts g r cap d W' A cp acc j := by
  have hsz := h.size
  exact ⟨h.items.keep s.size fun q hq hq2 => s.block q hq2 (by omega), p, (s.block _ (Lx.heap_lt h.res) (by omega)).trans h.res, h.sep.trans (s.mono (by omega)), Nat.le_trans hsz s.size⟩
theorem LoopAt.own_lt {W0 : World} {ts : List Tk} {g r cap d : Nat} {W : World} {A : Option Addr} {cp : Nat} {acc : List Tree} {i : Nat} (h : LoopAt W0 ts g r cap d W A cp acc i) : ∀ k, (Value.slice A acc.length cp).ownBlock = some k → k < W.heap.size ∧ W0.heap.size + 1 ≤ k := by
  intro k hk
  obtain ⟨xs, ho⟩ := h.items.own
  refine ⟨?_, Lx.own_block ho k hk⟩
  rcases ho.2 with ⟨h1, _⟩ | ⟨q, _, _, h1, _, h3, _⟩
  · rw [h1] at hk; simp [Value.ownBlock] at hk
  · rw [h1] at hk
    simp [Value.ownBlock] at hk
    have := Lx.heap_lt h3
    omega
/-- Behind an append of a node that a call told. -/
theorem LoopAt.snoc {W0 : World} {ts : List Tk} {g r cap d lo : Nat} {W1 w4 : World} {A : Option Addr} {cp : Nat} {acc : List Tree} {i : Nat} {t : Tree} {x y z v' : Value} {o : Obj} (h : LoopAt W0 ts g r cap d W1 A cp acc i) (hg : g < W0.heap.size) (hlo : W0.heap.size + 1 ≤ lo) (hown : ∀ k, (Value.slice A acc.length cp).ownBlock = some k → k < lo) (hn : Nd (fun q => lo ≤ q) W1 t x y z)
    (hown4 : ∀ vs : List (Value × Value × Value), W1.ownsRow (W0.heap.size + 1) 63 3 (.slice A acc.length cp) acc.length (cells3 vs) → w4.ownsRow (W0.heap.size + 1) 63 3 v' (acc.length + 1) (cells3 vs ++ [x, y, z]))
    (hgr : (W1.alloc o).grownBy w4 (Value.slice A acc.length cp).ownBlock) (hat : v'.ownBlock = (Value.slice A acc.length cp).ownBlock ∨ v'.ownBlock = some (W1.alloc o).heap.size) :
    ∃ A' cp', v' = .slice A' (acc.length + 1) cp' ∧ LoopAt W0 ts g r cap d w4 A' cp' (acc ++ [t]) i := by
  have hsz := h.size
  have hb := h.own_lt
  obtain ⟨A', cp', hv, hit⟩ := h.items.snoc hlo hown hn hown4 hgr hat
  have keep : ∀ k, k < W1.heap.size → k ≤ W0.heap.size → w4.heap[k]? = W1.heap[k]? := fun k hk hk2 =>
    (hgr.block k (by simp; omega) (fun e => by have := (hb k e.symm).2; omega)).trans (heap_alloc_old W1 o hk)
  have hpl := Lx.heap_lt h.par.blk
  have hlt := h.par.lt
  refine ⟨A', cp', hv, hit, ⟨(keep g hpl (by omega)).trans h.par.blk, ⟨by have := hgr.size; simp at this; have := h.par.tok.1; omega, fun k u hk => ?_⟩, h.par.le, hlt⟩, (keep _ (Lx.heap_lt h.res) (Nat.le_refl _)).trans h.res, ?_, by have := hgr.size; simp at this; omega⟩
  · have e := h.par.tok.2 k u hk
    have hk2 := keep r h.par.tok.1 (by omega)
    unfold World.cell? at e ⊢
    simp only [hk2]
    exact e
  · exact h.sep.trans ⟨hgr.os, hgr.tape, hgr.output, by have := hgr.size; simp at this; omega, fun k hk _ => keep k (by omega) (by omega)⟩

theorem res_done {w3 : World} {b : Nat} (h : ZAt w3 b) (x y z : Value) : (((w3.setCell ⟨b, 0, none⟩ x).setCell ⟨b, 1, none⟩ y).setCell ⟨b, 2, none⟩ z).heap[b]? = some (.cells #[x, y, z] 63 (0, 0)) :=
  Lx.heap_set (Lx.heap_set (Lx.heap_set h 0 _) 1 _) 2 _
theorem res_keep (w3 : World) {b k : Nat} (x y z : Value) (h : b ≠ k) : (((w3.setCell ⟨b, 0, none⟩ x).setCell ⟨b, 1, none⟩ y).setCell ⟨b, 2, none⟩ z).heap[k]? = w3.heap[k]? :=
  ((Lx.set_keep _ 2 _ h).trans (Lx.set_keep _ 1 _ h)).trans (Lx.set_keep _ 0 _ h)
theorem res_size (w3 : World) (b : Nat) (x y z : Value) : (((w3.setCell ⟨b, 0, none⟩ x).setCell ⟨b, 1, none⟩ y).setCell ⟨b, 2, none⟩ z).heap.size = w3.heap.size := by simp [World.setCell]
/-- The result stored. -/
theorem res_out {W : World} {ts : List Tk} {g r cap d : Nat} {w2 w3 : World} {A : Option Addr} {cp : Nat} {acc : List Tree} {i : Nat} {t : Tree} {x y z : Value} (h : LoopAt W ts g r cap d w2 A cp acc i) (hb : Below w2.heap.size w2 w3) (hn : Nd (fun q => W.heap.size + 1 ≤ q) w3 t x y z) (hg : g < W.heap.size) :
    Out W g r ts cap d (.ok t i) (NV W.heap.size) (.returned (.agg #[x, y, z])) (((w3.setCell ⟨W.heap.size, 0, none⟩ x).setCell ⟨W.heap.size, 1, none⟩ y).setCell ⟨W.heap.size, 2, none⟩ z) := by
  have hp := h.par.below hb
  have hlt := hp.lt
  have hsz := h.size
  refine ⟨_, rfl, ⟨x, y, z, rfl, hn.keep (by rw [res_size]; exact Nat.le_refl _) fun q hq _ => ⟨by omega, fun j => ?_⟩⟩, ⟨?_, ⟨by rw [res_size]; exact hp.tok.1, fun k u hk => ?_⟩, hp.le, hlt⟩, ?_⟩
  · have := res_keep w3 x y z (show W.heap.size ≠ q by omega)
    unfold World.cell?
    simp only [this]
  · exact (res_keep w3 x y z (by omega)).trans hp.blk
  · have := res_keep w3 x y z (show W.heap.size ≠ r by omega)
    have e := hp.tok.2 k u hk
    unfold World.cell? at e ⊢
    simp only [this]
    exact e
  · exact (((sep_below h.sep (by omega) hb).setCell (.inr (Nat.le_refl _)) _).setCell (.inr (Nat.le_refl _)) _).setCell (.inr (Nat.le_refl _)) _

theorem owns_uniq {W : World} {base n k : Nat} {e : TypeId} {v : Value} {xs ys : List Value} (h : W.ownsRow base e k v n xs) (h2 : W.ownsRow base e k v n ys) : xs = ys := by
  rcases h.2 with ⟨hv, hn⟩ | ⟨g, cp, cur, hv, _, hh, _, _, _, ht⟩
  · have a := h.1
    have b := h2.1
    rw [hn, Nat.zero_mul] at a b
    rw [List.eq_nil_of_length_eq_zero a, List.eq_nil_of_length_eq_zero b]
  · rcases h2.2 with ⟨hv2, _⟩ | ⟨g2, cp2, cur2, hv2, _, hh2, _, _, _, ht2⟩
    · rw [hv] at hv2; injection hv2 with e1; exact absurd e1 (by simp)
    · rw [hv] at hv2
      injection hv2 with e1
      injection e1 with e1
      injection e1 with e1
      subst e1
      rw [hh] at hh2
      injection hh2 with e2
      injection e2 with e2
      subst e2
      rw [← ht, ← ht2]

theorem ndinfo : (Try.prog.info? 63).map (fun i => (i.zero, i.size, i.bytes)) = some (some (.agg #[.int .i64 0, .string ⟨#[]⟩, .slice none 0 0]), 3, 48) := by kernel_rfl

/-- How far alternation is. -/
def AltAt (W0 : World) (ts : List Tk) (g r cap d f : Nat) (R : Res Tree) (v : Value) (W : World) : Prop :=
  ∃ (f' i cp : Nat) (A : Option Addr) (acc : List Tree), v = .slice A acc.length cp ∧ f' ≤ f ∧ i < ts.length ∧ acc.length ≤ i + 1 ∧ pMore ts f' d i acc = some R ∧ LoopAt W0 ts g r cap d W A cp acc i

set_option maxHeartbeats 4000000 in
theorem alt_any (ts : List Tk) (hE : Ended ts) (hn : ts.length ≤ 65537) (f : Nat) (hrow : ∀ f', f' ≤ f → Ctr 97 ts (pRow ts f')) : Ctr 88 ts (pAlt ts (f + 1)) := by
  intro W g r cap i d R hp hi hd hR
  have hg := Lx.heap_lt hp.blk
  rw [pAlt] at hR
  have hz : ZAt (W.alloc (.cells #[.int .i64 0, .string ⟨#[]⟩, .slice none 0 0] 63)) W.heap.size := heap_alloc_new W _
  have hb0 : Below W.heap.size W (W.alloc (.cells #[.int .i64 0, .string ⟨#[]⟩, .slice none 0 0] 63)) := (Below.refl _ _).alloc (Nat.le_refl _) _
  have hp0 := hp.below hb0
  rcases bind_some hR with ⟨l, c, q, h1, rfl⟩ | ⟨t, j, h1, h2⟩
  · have KR := hrow f (Nat.le_refl _) _ g r cap i d _ hp0 hi hd h1
    have KR1 := Lib.hid KR
    have HB0 := Lib.hid hb0
    clear KR hb0 hp0 hz hp hR h1
    go_enter Try.func88, Try.ntmps88
    go_wp2_with fail
    refine KR1.out.mono ?_
    rintro e w1 ⟨rfl, hs⟩
    have hs2 := (Lx.Sep.of_below (g := g) HB0.out).trans (hs.mono (by simp))
    clear hs
    go_wp2
    exact ⟨rfl, rfl, hs2⟩
  · have KR := hrow f (Nat.le_refl _) _ g r cap i d _ hp0 hi hd h1
    have hj := (inb_all ts hE f).2.2.1 d i hi t j h1
    have KR1 := Lib.hid KR
    have HB0 := Lib.hid hb0
    have HZ := Lib.hid hz
    have H2 := Lib.hid h2
    clear KR hb0 hp0 hz hp hR h1 h2
    obtain ⟨i0, hi0, hz0, hz1, hz2⟩ := info_parts ndinfo
    go_enter Try.func88, Try.ntmps88
    go_wp2_with fail
    refine KR1.out.mono ?_
    rintro e w1 ⟨x, rfl, ⟨xa, xb, xc, rfl, hnd⟩, hp1, hs⟩
    have hs1 := hs.size
    simp only [heap_size_alloc'] at hnd hs1
    have hL : LoopAt W ts g r cap d (w1.alloc (.cells #[xa, xb, xc] 63)) (some ⟨w1.heap.size, 0, none⟩) 1 [t] j := by
      have hb1 : Below w1.heap.size w1 (w1.alloc (.cells #[xa, xb, xc] 63)) := (Below.refl _ _).alloc (Nat.le_refl _) _
      refine ⟨Items.start hnd (Nat.le_refl _) (by omega), hp1.below hb1, ?_, ?_, by simp; omega⟩
      · exact (hb1.block _ (by omega)).trans ((hs.block _ (by simp) (by omega)).trans HZ.out)
      · exact ((Lx.Sep.of_below (g := g) HB0.out).trans (hs.mono (by simp))).trans ((Lx.Sep.of_below hb1).mono (by omega))
    obtain ⟨ka, ta, Aa, na, ca, rfl, rfl, rfl⟩ := hnd.form
    have HL := Lib.hid hL
    clear hL hnd hp1 hs
    go_wp2
    go_loopw [3] (fun v wr => AltAt W ts g r cap d f R v wr) (fun _ wr => ts.length - atOf wr g)
    case atStart => exact ⟨f, j, 1, some ⟨w1.heap.size, 0, none⟩, [t], rfl, Nat.le_refl _, hj, by simp, H2.out, HL.out⟩
    case round =>
      obtain ⟨f', i', cp, A, acc, rfl, hf', hi', hacc, hM, hLp⟩ := hrel
      have hat := atOf_is hLp.par
      cases f' with
      | zero => simp [pMore] at hM
      | succ f'' =>
        rw [pMore] at hM
        have KS := skip_any wr g r ts cap i' d 124 hLp.par hE hi' (by omega)
        cases hsg : isSg ts i' 124
        · have hr : skp ts i' 124 = .ok false i' := by unfold skp; rw [hsg]; rfl
          rw [hr] at KS
          rw [hsg, if_neg (by decide)] at hM
          injection hM with hM
          subst hM
          have KS1 := Lib.hid KS
          have HL1 := Lib.hid hLp
          clear KS hLp hr hsg hat
          go_wp2_with fail
          refine KS1.out.mono ?_
          rintro e w2 ⟨x, rfl, rfl, hp2, hs2⟩
          have hL2 := HL1.out.call hg hp2 hs2
          have KJ := joined_any (W.heap.size + 1) 4 A cp acc w2 hL2.items (by omega)
          have HL2 := Lib.hid hL2
          clear hL2 hp2 hs2
          go_wp2_with fail
          refine KJ.mono ?_
          rintro e w3 ⟨ya, yb, yc, rfl, hnd, hb3⟩
          obtain ⟨kb, tb, Ab, nb, cb, rfl, rfl, rfl⟩ := hnd.form
          have hz3 : ZAt w3 W.heap.size := (hb3.block _ (Lx.heap_lt HL2.out.res)).trans HL2.out.res
          obtain ⟨z0, z1, z2, zf⟩ := hz3.facts
          have HZ3 := Lib.hid hz3
          have HN := Lib.hid hnd
          have HB := Lib.hid hb3
          clear hz3 hnd hb3 KJ
          go_wp2
          exact bodyPost_ret (results_cell_row rfl _ _ W.heap.size 63 _ (0, 0) _ rfl (res_done HZ3.out _ _ _) Try.underlying63 rfl rfl) rfl (res_out HL2.out HB.out HN.out hg)
        · have hj := isSg_kind hsg
          have hj2 := hE i' hj
          rw [hsg, if_pos rfl] at hM
          cases ht : tak ts i' with
          | no l k q =>
            have hr : skp ts i' 124 = .no l k q := by unfold skp; rw [hsg, ht]; rfl
            rw [hr] at KS
            rw [ht] at hM
            injection hM with hM
            subst hM
            have KS1 := Lib.hid KS
            have HL1 := Lib.hid hLp
            clear KS hLp hr hsg hat ht
            go_wp2_with fail
            refine KS1.out.mono ?_
            rintro e w2 ⟨rfl, hs2⟩
            have hfin := HL1.out.sep.trans (hs2.mono (by have := HL1.out.size; omega))
            clear hs2
            go_wp2
            exact ⟨rfl, rfl, hfin⟩
          | ok u j2 =>
            have hje := tak_at ht
            have hr : skp ts i' 124 = .ok true j2 := by unfold skp; rw [hsg, ht]; rfl
            rw [hr] at KS
            rw [ht] at hM
            have hM2 : ((pRow ts f'' d j2).bind fun r => r.bind fun t k => pMore ts f'' d k (acc ++ [t])) = some R := hM
            clear hM
            have KR2 := hrow f'' (by omega)
            rcases bind_some hM2 with ⟨l, c, q, h1, rfl⟩ | ⟨t2, k2, h1, h2⟩
            · have KS1 := Lib.hid KS
              have HL1 := Lib.hid hLp
              have H1 := Lib.hid h1
              clear KS hLp hr hsg hat ht hM2 h1
              go_wp2_with fail
              refine KS1.out.mono ?_
              rintro e w2 ⟨x, rfl, rfl, hp2, hs2⟩
              have hL2 := HL1.out.call hg hp2 hs2
              have HL2 := Lib.hid hL2
              have KR3 := KR2 w2 g r cap j2 d _ hp2 (by omega) hd H1.out
              clear hL2 hp2 hs2
              go_wp2_with fail
              refine KR3.mono ?_
              rintro e w3 ⟨rfl, hs3⟩
              have hfin := HL2.out.sep.trans (hs3.mono (by have := HL2.out.size; omega))
              clear hs3 KR3
              go_wp2
              exact ⟨rfl, rfl, hfin⟩
            · have KS1 := Lib.hid KS
              have HL1 := Lib.hid hLp
              have H1 := Lib.hid h1
              have H2b := Lib.hid h2
              have HAT := Lib.hid hat
              have hk2 := (inb_all ts hE f'').2.2.1 d j2 (by omega) t2 k2 h1
              have hk3 := (adv_all ts f'').2.2.1 d j2 t2 k2 h1
              clear KS hLp hr hsg hat ht hM2 h1 h2
              go_wp2_with fail
              refine KS1.out.mono ?_
              rintro e w2 ⟨x, rfl, rfl, hp2, hs2⟩
              have hL2 := HL1.out.call hg hp2 hs2
              have HL2 := Lib.hid hL2
              have KR3 := KR2 w2 g r cap j2 d _ hp2 (by omega) hd H1.out
              clear hL2 hp2 hs2
              go_wp2_with fail
              refine KR3.mono ?_
              rintro e w3 ⟨x, rfl, ⟨ya, yb, yc, rfl, hnd⟩, hp3, hs3⟩
              have hL3 := HL2.out.call hg hp3 hs3
              obtain ⟨kb, tb, Ab, nb, cb, rfl, rfl, rfl⟩ := hnd.form
              obtain ⟨vs, hv1, hv2, hv3⟩ := hL3.items
              have hsz3 := hL3.size
              have HV2 := Lib.hid hv2
              have HL3 := Lib.hid hL3
              have HN := Lib.hid hnd
              clear hL3 hp3 hs3 KR3 hv1 hv2 hv3 hnd
              go_wp2_with ((at_builtin; refine wpList_append_own_at _ rfl _ _ 61 rfl (W.heap.size + 1) 63 i0 _ 3 48 Try.underlying61 hi0 hz0 hz1 hz2 rfl (by decide) _ _ _ rfl (HV2.out.alloc _) ⟨w3.heap.size, 0, none⟩ 1 1 [.int .i64 kb, .string tb, .slice Ab nb cb] rfl rfl (Lx.row_new _ [.int .i64 kb, .string tb, .slice Ab nb cb] _ _ rfl) (by simp [Value.oneCell']) (by unfold maxLen; omega) (by omega) (by simp; omega) ?_))
              intro v' w4 hown4 hgrow4 _ hat4
              obtain ⟨A', cp', rfl, hL4⟩ := HL3.out.snoc hg HL2.out.size (fun k hk => (HL2.out.own_lt k hk).1) HN.out (fun vs2 hv2 => by rw [owns_uniq hv2 HV2.out]; exact hown4) hgrow4 (by rw [heap_size_alloc']; exact hat4)
              have HL4 := Lib.hid hL4
              clear hL4 hgrow4 hat4 hown4
              go_wp2
              go_roundw
              case rel => exact ⟨f'', k2, cp', A', acc ++ [t2], by simp, by omega, hk2, by simp; omega, H2b.out, HL4.out⟩
              case measure =>
                rw [HAT.out, atOf_is HL4.out.par]
                omega

end Go.Proofs.Ytakihbjfkpebcaa.Sx
