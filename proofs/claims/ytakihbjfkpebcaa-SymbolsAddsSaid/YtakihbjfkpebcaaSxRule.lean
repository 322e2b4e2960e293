/-
  The walk of rule.
-/
import Derived.Test.YtakihbjfkpebcaaSxKnot
namespace Go.Proofs.Ytakihbjfkpebcaa.Sx
open Go.RowKit
open Lx (Tk Toks)
set_option maxRecDepth 100000

/-- A rule is told, all of it new. -/
def RV (lo : Nat) : List UInt8 × Tree → Value → World → Prop := fun v x w' => ∃ a b c, x = .agg #[.string (Lx.mk v.1), a, b, c] ∧ Nd (fun r => lo ≤ r) w' v.2 a b c
/-- Within rule: the result's block. -/
structure RuAt (W0 : World) (g r : Nat) (ts : List Tk) (cap d : Nat) (W : World) (i : Nat) : Prop where
  par : PAt W g r ts cap i d
  res : W.heap[W0.heap.size]? = some (.cells #[.string ⟨#[]⟩, .int .i64 0, .string ⟨#[]⟩, .slice none 0 0] 65 (0, 0))
  sep : Lx.Sep g W0.heap.size W0 W
  size : W0.heap.size + 1 ≤ W.heap.size
section
variable {W0 W W' : World} {g r : Nat} {ts : List Tk} {cap d i j : Nat}
theorem RuAt.start (h : PAt W g r ts cap i d) : RuAt W g r ts cap d (W.alloc (.cells #[.string ⟨#[]⟩, .int .i64 0, .string ⟨#[]⟩, .slice none 0 0] 65)) i :=
  have hb : Below W.heap.size W (W.alloc (.cells #[.string ⟨#[]⟩, .int .i64 0, .string ⟨#[]⟩, .slice none 0 0] 65)) := (Below.refl _ _).alloc (Nat.le_refl _) _
  ⟨h.below hb, heap_alloc_new W _, Lx.Sep.of_below hb, by simp⟩
theorem RuAt.bad (h : RuAt W0 g r ts cap d W i) (s : Lx.Sep g W.heap.size W W') : Lx.Sep g W0.heap.size W0 W' := h.sep.trans (s.mono (by have := h.size; omega))
theorem RuAt.call (h : RuAt W0 g r ts cap d W i) (hg : g < W0.heap.size) {d' : Nat} (p : PAt W' g r ts cap j d') (s : Lx.Sep g W.heap.size W W') : RuAt W0 g r ts cap d' W' j :=
  ⟨p, (s.block _ (Lx.heap_lt h.res) (by omega)).trans h.res, h.bad s, Nat.le_trans h.size s.size⟩
theorem RuAt.facts (h : RuAt W0 g r ts cap d W i) : W.cell? ⟨W0.heap.size, 0, none⟩ = some (.string ⟨#[]⟩) ∧ W.cell? ⟨W0.heap.size, 1, none⟩ = some (.int .i64 0) ∧ W.cell? ⟨W0.heap.size, 2, none⟩ = some (.string ⟨#[]⟩) ∧ W.cell? ⟨W0.heap.size, 3, none⟩ = some (.slice none 0 0) ∧ ∀ j, W.frozen? ⟨W0.heap.size, j, none⟩ = false :=
  ⟨cell_of_row _ _ 0 _ _ (0, 0) h.res, cell_of_row _ _ 1 _ _ (0, 0) h.res, cell_of_row _ _ 2 _ _ (0, 0) h.res, cell_of_row _ _ 3 _ _ (0, 0) h.res, fun j => by have h' := h.res; simp [World.frozen?, h']⟩
theorem RuAt.done (h : RuAt W0 g r ts cap d W i) (v x y z : Value) : ((((W.setCell ⟨W0.heap.size, 0, none⟩ v).setCell ⟨W0.heap.size, 1, none⟩ x).setCell ⟨W0.heap.size, 2, none⟩ y).setCell ⟨W0.heap.size, 3, none⟩ z).heap[W0.heap.size]? = some (.cells #[v, x, y, z] 65 (0, 0)) :=
  Lx.heap_set (Lx.heap_set (Lx.heap_set (Lx.heap_set h.res 0 _) 1 _) 2 _) 3 _
theorem rule_end {lo : Nat} {n : List UInt8} {t : Tree} {x y z : Value} (h : RuAt W0 g r ts cap d W i) (hlo : W0.heap.size + 1 ≤ lo) (hn : Nd (fun q => lo ≤ q) W t x y z) (hg : g < W0.heap.size) (v : Value) (hv : v = .string (Lx.mk n)) :
    Out W0 g r ts cap d (.ok (n, t) i) (RV W0.heap.size) (.returned (.agg #[v, x, y, z])) ((((W.setCell ⟨W0.heap.size, 0, none⟩ v).setCell ⟨W0.heap.size, 1, none⟩ x).setCell ⟨W0.heap.size, 2, none⟩ y).setCell ⟨W0.heap.size, 3, none⟩ z) := by
  subst hv
  have hp := h.par
  have hlt := hp.lt
  have keep : ∀ (v : Value) (k : Nat), W0.heap.size ≠ k → ((((W.setCell ⟨W0.heap.size, 0, none⟩ v).setCell ⟨W0.heap.size, 1, none⟩ x).setCell ⟨W0.heap.size, 2, none⟩ y).setCell ⟨W0.heap.size, 3, none⟩ z).heap[k]? = W.heap[k]? := fun v k hk => (((Lx.set_keep _ 3 _ hk).trans (Lx.set_keep _ 2 _ hk)).trans (Lx.set_keep _ 1 _ hk)).trans (Lx.set_keep _ 0 _ hk)
  have hs : ∀ v : Value, ((((W.setCell ⟨W0.heap.size, 0, none⟩ v).setCell ⟨W0.heap.size, 1, none⟩ x).setCell ⟨W0.heap.size, 2, none⟩ y).setCell ⟨W0.heap.size, 3, none⟩ z).heap.size = W.heap.size := fun v => by simp [World.setCell]
  refine ⟨_, rfl, ⟨x, y, z, rfl, hn.keep (by rw [hs]; exact Nat.le_refl _) fun q hq _ => ⟨by omega, fun j => ?_⟩⟩, ⟨(keep _ _ (by omega)).trans hp.blk, ⟨by rw [hs]; exact hp.tok.1, fun k u hk => ?_⟩, hp.le, hlt⟩, ?_⟩
  · have := keep (.string (Lx.mk n)) q (by omega)
    unfold World.cell?
    simp only [this]
  · have := keep (.string (Lx.mk n)) r (by omega)
    have e := hp.tok.2 k u hk
    unfold World.cell? at e ⊢
    simp only [this]
    exact e
  · exact ((((h.sep).setCell (.inr (Nat.le_refl _)) _).setCell (.inr (Nat.le_refl _)) _).setCell (.inr (Nat.le_refl _)) _).setCell (.inr (Nat.le_refl _)) _
end

set_option maxHeartbeats 8000000 in
theorem rule_any (ts : List Tk) (hE : Ended ts) (hn : ts.length ≤ 65537) (f : Nat) (W : World) (g r cap i : Nat) (R : Res (List UInt8 × Tree)) (hp : PAt W g r ts cap i 0) (hi : i < ts.length) (hR : pRule ts f i = some R) :
    Calls Try.prog 70 #[.pointer (some ⟨g, 0, none⟩)] W (Out W g r ts cap 0 R (RV W.heap.size)) := by
  have hg := Lx.heap_lt hp.blk
  unfold pRule at hR
  have HS := Lib.hid (RuAt.start hp)
  clear hp
  have KN := name_any _ g r ts cap i 0 HS.out.par hE hi (by omega)
  rcases res_some hR with ⟨l, c, q, h1, rfl⟩ | ⟨n, j, h1, h2⟩
  · rw [h1] at KN
    have HK := Lib.hid KN
    clear KN hR h1
    go_enter Try.func70, Try.ntmps70
    go_wp2_with fail
    refine HK.out.mono ?_
    rintro e w1 ⟨rfl, hs1⟩
    have hfin := HS.out.bad hs1
    clear hs1
    go_wp2
    exact ⟨rfl, rfl, hfin⟩
  · rw [h1] at KN
    have HK := Lib.hid KN
    have hj : j < ts.length := by
      have h3 := h1
      unfold nam at h3
      split at h3
      · rename_i hk
        have e := (nam_at h1).1
        have := hE i (by rw [hk]; decide)
        omega
      · unfold Res.bad at h3; cases h3
    have H2 := Lib.hid h2
    clear KN hR h1 h2
    go_enter Try.func70, Try.ntmps70
    go_wp2_with fail
    refine HK.out.mono ?_
    rintro e w1 ⟨x, rfl, rfl, hp1, hs1⟩
    have H1 := Lib.hid (HS.out.call hg hp1 hs1)
    clear hp1 hs1
    have KN := need_any _ g r ts cap j 0 58 H1.out.par hE hj (by omega)
    rcases res_some H2.out with ⟨l, c, q, h3, rfl⟩ | ⟨u, k, h3, h4⟩
    · rw [h3] at KN
      have HK2 := Lib.hid KN
      clear KN h3
      go_wp2_with fail
      refine HK2.out.mono ?_
      rintro e w2 ⟨rfl, hs2⟩
      have hfin := H1.out.bad hs2
      clear hs2
      go_wp2
      exact ⟨rfl, rfl, hfin⟩
    · rw [h3] at KN
      have hk : k < ts.length := need_inb hE u k h3
      have HK2 := Lib.hid KN
      have H4 := Lib.hid h4
      clear KN h3 h4
      go_wp2_with fail
      refine HK2.out.mono ?_
      rintro e w2 ⟨x, rfl, rfl, hp2, hs2⟩
      have H2a := Lib.hid (H1.out.call hg hp2 hs2)
      clear hp2 hs2
      rcases bind_some H4.out with ⟨l, c, q, h5, rfl⟩ | ⟨t, m, h5, h6⟩
      · have KA := (knot ts hE hn f).1 _ g r cap k 0 _ H2a.out.par hk (by omega) h5
        have HKA := Lib.hid KA
        clear KA h5
        go_wp2_with fail
        refine HKA.out.mono ?_
        rintro e w3 ⟨rfl, hs3⟩
        have hfin := H2a.out.bad hs3
        clear hs3
        go_wp2
        exact ⟨rfl, rfl, hfin⟩
      · have KA := (knot ts hE hn f).1 _ g r cap k 0 _ H2a.out.par hk (by omega) h5
        have hm := (inb_all ts hE f).1 0 k hk t m h5
        have HKA := Lib.hid KA
        have H6 := Lib.hid h6
        clear KA h5 h6
        go_wp2_with fail
        refine HKA.out.mono ?_
        rintro e w3 ⟨x, rfl, ⟨xa, xb, xc, rfl, hnd⟩, hp3, hs3⟩
        obtain ⟨kb, tb, Ab, nb, cb, rfl, rfl, rfl⟩ := hnd.form
        have hb : Below w3.heap.size w3 (w3.alloc (.cells #[.int .i64 kb, .string tb, .slice Ab nb cb] 63)) := (Below.refl _ _).alloc (Nat.le_refl _) _
        have h3a := H2a.out.call hg hp3 hs3
        have h3b := h3a.call hg (h3a.par.below hb) (Lx.Sep.of_below hb)
        have hnd2 := hnd.under hb
        have hblk := heap_alloc_new w3 (.cells #[.int .i64 kb, .string tb, .slice Ab nb cb] 63)
        have hlo := H2a.out.size
        have H3 := Lib.hid h3b
        have HN := Lib.hid hnd2
        have HB := Lib.hid hblk
        have HLO := Lib.hid hlo
        clear h3a h3b hnd hnd2 hblk hp3 hs3 hb hlo
        have KN := need_any _ g r ts cap m 0 59 H3.out.par hE hm (by omega)
        rcases res_some H6.out with ⟨l, c, q, h7, rfl⟩ | ⟨u2, o, h7, h8⟩
        · rw [h7] at KN
          have HK4 := Lib.hid KN
          clear KN h7
          go_wp2_with fail
          refine HK4.out.mono ?_
          rintro e w4 ⟨rfl, hs4⟩
          have hfin := H3.out.bad hs4
          clear hs4
          go_wp2
          exact ⟨rfl, rfl, hfin⟩
        · rw [h7] at KN
          injection h8 with h8
          subst h8
          have HK4 := Lib.hid KN
          clear KN h7
          go_wp2_with fail
          refine HK4.out.mono ?_
          rintro e w4 ⟨x, rfl, rfl, hp4, hs4⟩
          have h4 := H3.out.call hg hp4 hs4
          have hnd4 := HN.out.sep hs4 (by have := HLO.out; omega)
          have hblk4 := (hs4.block _ (Lx.heap_lt HB.out) (by have := H3.out.size; simp at this; omega)).trans HB.out
          have b0 := cell_of_row _ _ 0 _ _ (0, 0) hblk4
          have b1 := cell_of_row _ _ 1 _ _ (0, 0) hblk4
          have b2 := cell_of_row _ _ 2 _ _ (0, 0) hblk4
          obtain ⟨z0, z1, z2, z3, zf⟩ := h4.facts
          have H4b := Lib.hid h4
          have HN4 := Lib.hid hnd4
          clear h4 hnd4 hblk4 hp4 hs4
          go_wp2
          exact bodyPost_ret (results_cell_row rfl _ _ W.heap.size 65 _ (0, 0) _ rfl (H4b.out.done _ _ _ _) Try.underlying65 rfl rfl) rfl (rule_end H4b.out HLO.out HN4.out hg _ rfl)

end Go.Proofs.Ytakihbjfkpebcaa.Sx
