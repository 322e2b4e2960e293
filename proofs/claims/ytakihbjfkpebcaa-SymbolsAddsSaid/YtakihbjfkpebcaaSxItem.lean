/-
  The walks of atom and item.
-/
import Derived.Test.YtakihbjfkpebcaaSxAlt
namespace Go.Proofs.Ytakihbjfkpebcaa.Sx
open Go.RowKit
open Lx (Tk Toks)
set_option maxRecDepth 100000

/-- Behind the bracket that token i opens. -/
def pBr (ts : List Tk) (f d i : Nat) : Option (Res Tree) :=
  match clos ts i with
  | none => none
  | some c => if d = 16 then some (.bad ts i 11) else (tak ts i).bind fun _ j => (pAlt ts f (d + 1) j).bind fun r => r.bind fun t k => (need ts k c).bind fun _ m => some (.ok (wrapped c t) m)
theorem pAtom_is (ts : List Tk) (f d i : Nat) : pAtom ts (f + 1) d i = if (tkAt ts i).kind = 1 then (tak ts i).bind fun _ j => some (.ok (.node 1 (tkAt ts i).text []) j) else if (tkAt ts i).kind = 2 then (tak ts i).bind fun _ j => some (.ok (.node 2 (tkAt ts i).text []) j) else pBr ts f d i := by
  rw [pAtom]; rfl

/-- Within a function whose result is a node. -/
structure ResAt (W0 : World) (g r : Nat) (ts : List Tk) (cap d : Nat) (W : World) (i : Nat) : Prop where
  par : PAt W g r ts cap i d
  res : ZAt W W0.heap.size
  sep : Lx.Sep g W0.heap.size W0 W
  size : W0.heap.size + 1 ≤ W.heap.size
section
variable {W0 W W' : World} {g r : Nat} {ts : List Tk} {cap d i j : Nat}
theorem ResAt.start (h : PAt W g r ts cap i d) : ResAt W g r ts cap d (W.alloc (.cells #[.int .i64 0, .string ⟨#[]⟩, .slice none 0 0] 63)) i :=
  have hb : Below W.heap.size W (W.alloc (.cells #[.int .i64 0, .string ⟨#[]⟩, .slice none 0 0] 63)) := (Below.refl _ _).alloc (Nat.le_refl _) _
  ⟨h.below hb, heap_alloc_new W _, Lx.Sep.of_below hb, by simp⟩
theorem ResAt.bad (h : ResAt W0 g r ts cap d W i) (s : Lx.Sep g W.heap.size W W') : Lx.Sep g W0.heap.size W0 W' := h.sep.trans (s.mono (by have := h.size; omega))
theorem ResAt.call (h : ResAt W0 g r ts cap d W i) (hg : g < W0.heap.size) {d' : Nat} (p : PAt W' g r ts cap j d') (s : Lx.Sep g W.heap.size W W') : ResAt W0 g r ts cap d' W' j :=
  ⟨p, (s.block _ (Lx.heap_lt h.res) (by omega)).trans h.res, h.bad s, Nat.le_trans h.size s.size⟩
theorem ResAt.below (h : ResAt W0 g r ts cap d W i) (hg : g < W0.heap.size) (b : Below W.heap.size W W') : ResAt W0 g r ts cap d W' i := h.call hg (h.par.below b) (Lx.Sep.of_below b)
theorem ResAt.drewN (h : ResAt W0 g r ts cap d W i) (n : Nat) : ResAt W0 g r ts cap d (W.drewN n) i := ⟨h.par.drewN n, h.res, sep_drewN h.sep n, h.size⟩
/-- The result stored. -/
theorem res_end {t : Tree} {x y z : Value} (h : ResAt W0 g r ts cap d W i) (hn : Nd (fun q => W0.heap.size + 1 ≤ q) W t x y z) (hg : g < W0.heap.size) :
    Out W0 g r ts cap d (.ok t i) (NV W0.heap.size) (.returned (.agg #[x, y, z])) (((W.setCell ⟨W0.heap.size, 0, none⟩ x).setCell ⟨W0.heap.size, 1, none⟩ y).setCell ⟨W0.heap.size, 2, none⟩ z) :=
  res_out (acc := []) (A := none) (cp := 0) ⟨Items.nil _ _, h.par, h.res, h.sep, h.size⟩ (Below.refl _ _) hn hg
end

set_option maxHeartbeats 4000000 in
theorem atom_any (ts : List Tk) (hE : Ended ts) (hn : ts.length ≤ 65537) (f : Nat) (hbr : Ctr 108 ts (pBr ts f)) : Ctr 105 ts (pAtom ts (f + 1)) := by
  intro W g r cap i d R hp hi hd hR
  have hg := Lx.heap_lt hp.blk
  rw [pAtom_is] at hR
  have hS := ResAt.start hp
  have HS := Lib.hid hS
  have KI := is_any _ g r ts cap i d 1 hS.par hi
  by_cases h1 : (tkAt ts i).kind = 1
  · rw [if_pos h1] at hR
    have KT := fun n => take_any _ g r ts cap i d (hS.par.drewN n) hE (by rw [h1]; decide) (by omega)
    rw [show (((tkAt ts i).kind : Int) == ((1 : Nat) : Int)) = true by rw [h1]; rfl] at KI
    obtain ⟨tx, htx⟩ : ∃ tx, tx = (tkAt ts i).text := ⟨_, rfl⟩
    rw [← htx] at KT hR
    have KI1 := Lib.hid KI
    clear htx KI h1 hS hp
    cases ht : tak ts i with
    | no l c q =>
      rw [ht] at hR KT
      injection hR with hR
      subst hR
      have KT1 := Lib.hid KT
      clear KT ht
      go_enter Try.func105, Try.ntmps105
      go_wp2_with fail
      refine KI1.out.mono ?_
      rintro e w1 ⟨rfl, m, rfl⟩
      go_wp2_with fail
      refine (KT1.out _).mono ?_
      rintro e w2 ⟨rfl, hs2⟩
      have hfin := (HS.out.drewN m).bad hs2
      clear hs2
      go_wp2
      exact ⟨rfl, rfl, hfin⟩
    | ok u j =>
      rw [ht] at hR KT
      injection hR with hR
      subst hR
      have KT1 := Lib.hid KT
      clear KT ht
      go_enter Try.func105, Try.ntmps105
      go_wp2_with fail
      refine KI1.out.mono ?_
      rintro e w1 ⟨rfl, m, rfl⟩
      go_wp2_with fail
      refine (KT1.out _).mono ?_
      rintro e w2 ⟨x, rfl, rfl, hp2, hs2⟩
      have hR2 := (HS.out.drewN m).call hg hp2 hs2
      obtain ⟨z0, z1, z2, zf⟩ := hR2.res.facts
      have H2 := Lib.hid hR2
      clear hp2 hs2 hR2
      go_wp2
      exact bodyPost_ret (results_cell_row rfl _ _ W.heap.size 63 _ (0, 0) _ rfl (res_done H2.out.res _ _ _) Try.underlying63 rfl rfl) rfl (res_end H2.out (Nd.leaf _ _ 1 tx none 0) hg)
  · rw [if_neg h1] at hR
    rw [show (((tkAt ts i).kind : Int) == ((1 : Nat) : Int)) = false by rw [beq_eq_false_iff_ne]; omega] at KI
    have KI2 := fun n => is_any _ g r ts cap i d 2 (hS.par.drewN n) hi
    have KI1 := Lib.hid KI
    by_cases h2 : (tkAt ts i).kind = 2
    · rw [if_pos h2] at hR
      have KT := fun n => take_any _ g r ts cap i d (hS.par.drewN n) hE (by rw [h2]; decide) (by omega)
      have hb : (((tkAt ts i).kind : Int) == ((2 : Nat) : Int)) = true := by rw [h2]; rfl
      simp only [hb] at KI2
      obtain ⟨tx, htx⟩ : ∃ tx, tx = (tkAt ts i).text := ⟨_, rfl⟩
      rw [← htx] at KT hR
      have KI3 := Lib.hid KI2
      clear htx KI KI2 hb h1 h2 hS hp
      cases ht : tak ts i with
      | no l c q =>
        rw [ht] at hR KT
        injection hR with hR
        subst hR
        have KT1 := Lib.hid KT
        clear KT ht
        go_enter Try.func105, Try.ntmps105
        go_wp2_with fail
        refine KI1.out.mono ?_
        rintro e w1 ⟨rfl, m, rfl⟩
        go_wp2_with fail
        refine (KI3.out _).mono ?_
        rintro e w1 ⟨rfl, m2, rfl⟩
        go_wp2_with fail
        refine (KT1.out _).mono ?_
        rintro e w2 ⟨rfl, hs2⟩
        have hfin := (HS.out.drewN (m + m2)).bad hs2
        clear hs2
        go_wp2
        exact ⟨rfl, rfl, hfin⟩
      | ok u j =>
        rw [ht] at hR KT
        injection hR with hR
        subst hR
        have KT1 := Lib.hid KT
        clear KT ht
        go_enter Try.func105, Try.ntmps105
        go_wp2_with fail
        refine KI1.out.mono ?_
        rintro e w1 ⟨rfl, m, rfl⟩
        go_wp2_with fail
        refine (KI3.out _).mono ?_
        rintro e w1 ⟨rfl, m2, rfl⟩
        go_wp2_with fail
        refine (KT1.out _).mono ?_
        rintro e w2 ⟨x, rfl, rfl, hp2, hs2⟩
        have hR2 := (HS.out.drewN (m + m2)).call hg hp2 hs2
        obtain ⟨z0, z1, z2, zf⟩ := hR2.res.facts
        have H2 := Lib.hid hR2
        clear hp2 hs2 hR2
        go_wp2
        exact bodyPost_ret (results_cell_row rfl _ _ W.heap.size 63 _ (0, 0) _ rfl (res_done H2.out.res _ _ _) Try.underlying63 rfl rfl) rfl (res_end H2.out (Nd.leaf _ _ 2 tx none 0) hg)
    · rw [if_neg h2] at hR
      have hb : (((tkAt ts i).kind : Int) == ((2 : Nat) : Int)) = false := by rw [beq_eq_false_iff_ne]; omega
      simp only [hb] at KI2
      have KI3 := Lib.hid KI2
      have KB := fun n => hbr _ g r cap i d R (hS.par.drewN n) hi hd hR
      have KB1 := Lib.hid KB
      clear KI KI2 KB hb h1 h2 hS hp hR
      go_enter Try.func105, Try.ntmps105
      go_wp2_with fail
      refine KI1.out.mono ?_
      rintro e w1 ⟨rfl, m, rfl⟩
      go_wp2_with fail
      refine (KI3.out _).mono ?_
      rintro e w1 ⟨rfl, m2, rfl⟩
      go_wp2_with fail
      refine (KB1.out _).mono ?_
      rintro e w2 ho
      cases R with
      | no l c q =>
        obtain ⟨rfl, hs2⟩ := ho
        have hfin := (HS.out.drewN (m + m2)).bad hs2
        clear hs2
        go_wp2
        exact ⟨rfl, rfl, hfin⟩
      | ok t j =>
        obtain ⟨x, rfl, ⟨ya, yb, yc, rfl, hnd⟩, hp2, hs2⟩ := ho
        obtain ⟨kb, tb, Ab, nb, cb, rfl, rfl, rfl⟩ := hnd.form
        have hR2 := (HS.out.drewN (m + m2)).call hg hp2 hs2
        obtain ⟨z0, z1, z2, zf⟩ := hR2.res.facts
        have H2 := Lib.hid hR2
        have HN := Lib.hid hnd
        clear hp2 hs2 hR2 hnd
        go_wp2
        exact bodyPost_ret (results_cell_row rfl _ _ W.heap.size 63 _ (0, 0) _ rfl (res_done H2.out.res _ _ _) Try.underlying63 rfl rfl) rfl (res_end H2.out (HN.out.keep (Nat.le_refl _) fun q hq _ => ⟨by have := HS.out.size; simp at hq ⊢; omega, fun _ => rfl⟩) hg)

/-- Within item, behind its atom: the node in its own block. -/
structure ItAt (W0 : World) (g r : Nat) (ts : List Tk) (cap d b : Nat) (t : Tree) (x y z : Value) (W : World) (i : Nat) : Prop where
  res : ResAt W0 g r ts cap d W i
  blk : W.heap[b]? = some (.cells #[x, y, z] 63 (0, 0))
  nd : Nd (fun q => W0.heap.size + 1 ≤ q) W t x y z
  hb : W0.heap.size < b
section
variable {W0 W W' : World} {g r : Nat} {ts : List Tk} {cap d i j b : Nat} {t : Tree} {x y z : Value}
theorem ItAt.facts (h : ItAt W0 g r ts cap d b t x y z W i) : W.cell? ⟨b, 0, none⟩ = some x ∧ W.cell? ⟨b, 1, none⟩ = some y ∧ W.cell? ⟨b, 2, none⟩ = some z :=
  ⟨cell_of_row _ _ 0 _ _ (0, 0) h.blk, cell_of_row _ _ 1 _ _ (0, 0) h.blk, cell_of_row _ _ 2 _ _ (0, 0) h.blk⟩
theorem ItAt.call (h : ItAt W0 g r ts cap d b t x y z W i) (hg : g < W0.heap.size) {d' : Nat} (p : PAt W' g r ts cap j d') (s : Lx.Sep g W.heap.size W W') : ItAt W0 g r ts cap d' b t x y z W' j :=
  ⟨h.res.call hg p s, (s.block _ (Lx.heap_lt h.blk) (by have := h.hb; omega)).trans h.blk, h.nd.sep s (by omega), h.hb⟩
theorem ItAt.start {W1 : World} (h : ResAt W0 g r ts cap d W1 i) (hg : g < W0.heap.size) (hn : Nd (fun q => W0.heap.size + 1 ≤ q) W1 t x y z) : ItAt W0 g r ts cap d W1.heap.size t x y z (W1.alloc (.cells #[x, y, z] 63)) i :=
  have hb : Below W1.heap.size W1 (W1.alloc (.cells #[x, y, z] 63)) := (Below.refl _ _).alloc (Nat.le_refl _) _
  ⟨h.below hg hb, heap_alloc_new W1 _, hn.under hb, by have := h.size; omega⟩
end

set_option maxHeartbeats 8000000 in
theorem item_any (ts : List Tk) (hE : Ended ts) (hn : ts.length ≤ 65537) (f : Nat) (hat : Ctr 105 ts (pAtom ts f)) : Ctr 103 ts (pItem ts (f + 1)) := by
  intro W g r cap i d R hp hi hd hR
  have hg := Lx.heap_lt hp.blk
  rw [pItem] at hR
  have hS := ResAt.start hp
  have HS := Lib.hid hS
  rcases bind_some hR with ⟨l, c, q, h1, rfl⟩ | ⟨t, j, h1, h2⟩
  · have KA := hat _ g r cap i d _ hS.par hi hd h1
    have KA1 := Lib.hid KA
    clear KA hS hR h1 hp
    go_enter Try.func103, Try.ntmps103
    go_wp2_with fail
    refine KA1.out.mono ?_
    rintro e w1 ⟨rfl, hs1⟩
    have hfin := HS.out.bad hs1
    clear hs1
    go_wp2
    exact ⟨rfl, rfl, hfin⟩
  · have KA := hat _ g r cap i d _ hS.par hi hd h1
    have hj := (inb_all ts hE f).2.2.2.2.2 d i hi t j h1
    have KA1 := Lib.hid KA
    have H2 := Lib.hid h2
    clear KA hS hR h1 h2 hp
    go_enter Try.func103, Try.ntmps103
    go_wp2_with fail
    refine KA1.out.mono ?_
    rintro e w1 ⟨x, rfl, ⟨xa, xb, xc, rfl, hnd⟩, hp1, hs1⟩
    obtain ⟨kb, tb, Ab, nb, cb, rfl, rfl, rfl⟩ := hnd.form
    have hR1 := HS.out.call hg hp1 hs1
    have hI := ItAt.start hR1 hg (hnd.keep (Nat.le_refl _) fun q hq _ => ⟨by simp at hq; omega, fun _ => rfl⟩)
    have HI1 := Lib.hid hI
    clear hI hR1 hnd hp1 hs1
    cases hs1 : isSg ts j 42
    · have KS := skip_any _ g r ts cap j d 42 HI1.out.res.par hE hj (by omega)
      rw [show skp ts j 42 = .ok false j by unfold skp; rw [hs1]; rfl] at KS
      go_wp2_with fail
      refine KS.mono ?_
      rintro e v1 ⟨x, rfl, rfl, hp, hsx⟩
      have HI2 := Lib.hid (HI1.out.call hg hp hsx)
      clear hp hsx KS
      cases hs2 : isSg ts j 43
      · have KS := skip_any _ g r ts cap j d 43 HI2.out.res.par hE hj (by omega)
        rw [show skp ts j 43 = .ok false j by unfold skp; rw [hs2]; rfl] at KS
        go_wp2_with fail
        refine KS.mono ?_
        rintro e v2 ⟨x, rfl, rfl, hp, hsx⟩
        have HI3 := Lib.hid (HI2.out.call hg hp hsx)
        clear hp hsx KS
        cases hs3 : isSg ts j 63
        · have KS := skip_any _ g r ts cap j d 63 HI3.out.res.par hE hj (by omega)
          rw [show skp ts j 63 = .ok false j by unfold skp; rw [hs3]; rfl] at KS
          go_wp2_with fail
          refine KS.mono ?_
          rintro e v3 ⟨x, rfl, rfl, hp, hsx⟩
          have HI4 := Lib.hid (HI3.out.call hg hp hsx)
          clear hp hsx KS
          have h2 := H2.out
          rw [hs1, if_neg (by decide), hs2, if_neg (by decide), hs3, if_neg (by decide)] at h2
          injection h2 with h2
          subst h2
          obtain ⟨b0, b1, b2⟩ := HI4.out.facts
          obtain ⟨z0, z1, z2, zf⟩ := HI4.out.res.res.facts
          go_wp2
          exact bodyPost_ret (results_cell_row rfl _ _ W.heap.size 63 _ (0, 0) _ rfl (res_done HI4.out.res.res _ _ _) Try.underlying63 rfl rfl) rfl (res_end HI4.out.res HI4.out.nd hg)
        · have h2 := H2.out
          rw [hs1, if_neg (by decide), hs2, if_neg (by decide), hs3, if_pos rfl] at h2
          cases ht : tak ts j with
          | no l c q =>
            rw [ht] at h2
            injection h2 with h2
            subst h2
            have KS := skip_any _ g r ts cap j d 63 HI3.out.res.par hE hj (by omega)
            rw [show skp ts j 63 = .no l c q by unfold skp; rw [hs3, ht]; rfl] at KS
            go_wp2_with fail
            refine KS.mono ?_
            rintro e w3 ⟨rfl, hsx⟩
            have hfin := HI3.out.res.bad hsx
            clear hsx KS
            go_wp2
            exact ⟨rfl, rfl, hfin⟩
          | ok u k =>
            rw [ht] at h2
            injection h2 with h2
            subst h2
            have KS := skip_any _ g r ts cap j d 63 HI3.out.res.par hE hj (by omega)
            rw [show skp ts j 63 = .ok true k by unfold skp; rw [hs3, ht]; rfl] at KS
            go_wp2_with fail
            refine KS.mono ?_
            rintro e w3 ⟨x, rfl, rfl, hp, hsx⟩
            have hI3 := HI3.out.call hg hp hsx
            have KA := around_any (W.heap.size + 1) 5 t _ _ _ w3 hI3.nd hI3.res.size
            obtain ⟨b0, b1, b2⟩ := hI3.facts
            have HJ := Lib.hid hI3
            have HKA := Lib.hid KA
            clear hI3 KA KS hp hsx
            go_wp2_with fail
            refine HKA.out.mono ?_
            rintro e w4 ⟨ya, yb, yc, rfl, hnd, hb4⟩
            obtain ⟨k2, t2, A2, n2, c2, rfl, rfl, rfl⟩ := hnd.form
            have hR4 := HJ.out.res.below hg hb4
            obtain ⟨z0, z1, z2, zf⟩ := hR4.res.facts
            have HR := Lib.hid hR4
            have HN := Lib.hid hnd
            clear hR4 hnd hb4 b0 b1 b2
            go_wp2
            exact bodyPost_ret (results_cell_row rfl _ _ W.heap.size 63 _ (0, 0) _ rfl (res_done HR.out.res _ _ _) Try.underlying63 rfl rfl) rfl (res_end HR.out HN.out hg)
      · have h2 := H2.out
        rw [hs1, if_neg (by decide), hs2, if_pos rfl] at h2
        cases ht : tak ts j with
        | no l c q =>
          rw [ht] at h2
          injection h2 with h2
          subst h2
          have KS := skip_any _ g r ts cap j d 43 HI2.out.res.par hE hj (by omega)
          rw [show skp ts j 43 = .no l c q by unfold skp; rw [hs2, ht]; rfl] at KS
          go_wp2_with fail
          refine KS.mono ?_
          rintro e w3 ⟨rfl, hsx⟩
          have hfin := HI2.out.res.bad hsx
          clear hsx KS
          go_wp2
          exact ⟨rfl, rfl, hfin⟩
        | ok u k =>
          rw [ht] at h2
          injection h2 with h2
          subst h2
          have KS := skip_any _ g r ts cap j d 43 HI2.out.res.par hE hj (by omega)
          rw [show skp ts j 43 = .ok true k by unfold skp; rw [hs2, ht]; rfl] at KS
          go_wp2_with fail
          refine KS.mono ?_
          rintro e w3 ⟨x, rfl, rfl, hp, hsx⟩
          have hI3 := HI2.out.call hg hp hsx
          have KA := around_any (W.heap.size + 1) 7 t _ _ _ w3 hI3.nd hI3.res.size
          obtain ⟨b0, b1, b2⟩ := hI3.facts
          have HJ := Lib.hid hI3
          have HKA := Lib.hid KA
          clear hI3 KA KS hp hsx
          go_wp2_with fail
          refine HKA.out.mono ?_
          rintro e w4 ⟨ya, yb, yc, rfl, hnd, hb4⟩
          obtain ⟨k2, t2, A2, n2, c2, rfl, rfl, rfl⟩ := hnd.form
          have hR4 := HJ.out.res.below hg hb4
          obtain ⟨z0, z1, z2, zf⟩ := hR4.res.facts
          have HR := Lib.hid hR4
          have HN := Lib.hid hnd
          clear hR4 hnd hb4 b0 b1 b2
          go_wp2
          exact bodyPost_ret (results_cell_row rfl _ _ W.heap.size 63 _ (0, 0) _ rfl (res_done HR.out.res _ _ _) Try.underlying63 rfl rfl) rfl (res_end HR.out HN.out hg)
    · have h2 := H2.out
      rw [hs1, if_pos rfl] at h2
      cases ht : tak ts j with
      | no l c q =>
        rw [ht] at h2
        injection h2 with h2
        subst h2
        have KS := skip_any _ g r ts cap j d 42 HI1.out.res.par hE hj (by omega)
        rw [show skp ts j 42 = .no l c q by unfold skp; rw [hs1, ht]; rfl] at KS
        go_wp2_with fail
        refine KS.mono ?_
        rintro e w3 ⟨rfl, hsx⟩
        have hfin := HI1.out.res.bad hsx
        clear hsx KS
        go_wp2
        exact ⟨rfl, rfl, hfin⟩
      | ok u k =>
        rw [ht] at h2
        injection h2 with h2
        subst h2
        have KS := skip_any _ g r ts cap j d 42 HI1.out.res.par hE hj (by omega)
        rw [show skp ts j 42 = .ok true k by unfold skp; rw [hs1, ht]; rfl] at KS
        go_wp2_with fail
        refine KS.mono ?_
        rintro e w3 ⟨x, rfl, rfl, hp, hsx⟩
        have hI3 := HI1.out.call hg hp hsx
        have KA := around_any (W.heap.size + 1) 6 t _ _ _ w3 hI3.nd hI3.res.size
        obtain ⟨b0, b1, b2⟩ := hI3.facts
        have HJ := Lib.hid hI3
        have HKA := Lib.hid KA
        clear hI3 KA KS hp hsx
        go_wp2_with fail
        refine HKA.out.mono ?_
        rintro e w4 ⟨ya, yb, yc, rfl, hnd, hb4⟩
        obtain ⟨k2, t2, A2, n2, c2, rfl, rfl, rfl⟩ := hnd.form
        have hR4 := HJ.out.res.below hg hb4
        obtain ⟨z0, z1, z2, zf⟩ := hR4.res.facts
        have HR := Lib.hid hR4
        have HN := Lib.hid hnd
        clear hR4 hnd hb4 b0 b1 b2
        go_wp2
        exact bodyPost_ret (results_cell_row rfl _ _ W.heap.size 63 _ (0, 0) _ rfl (res_done HR.out.res _ _ _) Try.underlying63 rfl rfl) rfl (res_end HR.out HN.out hg)

end Go.Proofs.Ytakihbjfkpebcaa.Sx
