/-
  Layer 14: the walk of skip.
-/
import Derived.Test.YtjlppffkacimoaaTrR
namespace Go.Proofs.Ytjlppffkacimoaa.Tr
open Go.RowKit
open Gn (Asks)
open Fx (IntsAt StrsAt Prd PG PrdsAt PgAt PgBox own_of_block own_base)
set_option maxRecDepth 100000
set_option linter.unusedSimpArgs false
set_option linter.unusedVariables false

theorem cell_al {w : World} {a : Addr} {v : Value} (h : w.cell? a = some v) (o : Obj) : (w.alloc o).cell? a = some v :=
  (((Below.refl w.heap.size w).alloc (Nat.le_refl _) o).cell (World.block_lt_of_cell? w a h)).trans h
theorem Stand.last {A B now : List Int} (h : Stand A B now) : B = [] ∨ ∃ B2 x, B = B2 ++ [x] := by
  rcases List.eq_nil_or_concat B with e | ⟨B2, x, e⟩
  · exact .inl e
  · exact .inr ⟨B2, x, by rw [e, List.concat_eq_append]⟩
theorem SyAt.moved {lo b : Nat} {A B : List Int} {x : Int} {g cp gq cap' : Nat} {va : Value} {w w4 : World} {o : Obj} (h : SyAt lo b A (B ++ [x]) va (.slice (some ⟨g, 0, none⟩) (B.length + 1) cp) w)
    (ho : w4.ownsRow lo 3 1 (.slice (some ⟨gq, 0, none⟩) (A.length + 1) cap') (A.length + 1) (A.map (Value.int .i64) ++ [.int .i64 x]))
    (hg : (w.drew.alloc o).grownBy w4 va.ownBlock) (ha : va.ownBlock = some gq ∨ w.heap.size ≤ gq) :
    SyAt lo b (A ++ [x]) B (.slice (some ⟨gq, 0, none⟩) (A.length + 1) cap') (.slice (some ⟨g, 0, none⟩) B.length cp) ((w4.setCell ⟨b, 0, none⟩ (.slice (some ⟨gq, 0, none⟩) (A.length + 1) cap')).setCell ⟨b, 1, none⟩ (.slice (some ⟨g, 0, none⟩) B.length cp)) ∧
    Below lo w ((w4.setCell ⟨b, 0, none⟩ (.slice (some ⟨gq, 0, none⟩) (A.length + 1) cap')).setCell ⟨b, 1, none⟩ (.slice (some ⟨g, 0, none⟩) B.length cp)) ∧
    (∀ k, k < w.heap.size → k ≠ b → va.ownBlock ≠ some k → ((w4.setCell ⟨b, 0, none⟩ (.slice (some ⟨gq, 0, none⟩) (A.length + 1) cap')).setCell ⟨b, 1, none⟩ (.slice (some ⟨g, 0, none⟩) B.length cp)).heap[k]? = w.heap[k]?) := by
  have hbz := Gn.heap_lt h.box
  have hgb := own_base (by have := h.behind; rwa [List.length_append, List.length_singleton] at this) (g := g) rfl
  have hlow := h.low
  have hk : ∀ k, k < w.heap.size → va.ownBlock ≠ some k → w4.heap[k]? = w.heap[k]? := fun k hk hn => (hg.block k (by simp; omega) (fun e => hn e.symm)).trans (heap_alloc_old w.drew o hk)
  have hx4 := (hk b hbz h.offA).trans h.box
  have gb : g ≠ b := fun e => h.offB (by rw [e]; rfl)
  have gqb : gq ≠ b := by
    rcases ha with e | e
    · exact fun e2 => h.offA (by rw [e, e2])
    · omega
  have gg : gq ≠ g := by
    rcases ha with e | e
    · exact fun e2 => h.apart gq e (by rw [e2]; rfl)
    · omega
  have hset : ∀ k, k ≠ b → ((w4.setCell ⟨b, 0, none⟩ (.slice (some ⟨gq, 0, none⟩) (A.length + 1) cap')).setCell ⟨b, 1, none⟩ (.slice (some ⟨g, 0, none⟩) B.length cp)).heap[k]? = w4.heap[k]? := fun k hk => by
    rw [Gn.set_keep _ _ _ (Ne.symm hk), Gn.set_keep _ _ _ (Ne.symm hk)]
  refine ⟨⟨Gn.heap_set (Gn.heap_set hx4 0 _) 1 _, ?_, ?_, fun k e => ?_, fun e => ?_, fun e => ?_, hlow⟩, ?_, fun k h1 h2 h3 => (hset k h2).trans (hk k h1 h3)⟩
  · rw [List.length_append, List.length_singleton, List.map_append, List.map_singleton]
    exact own_of_block ho fun k e => hset k (by have e : gq = k := (by injection e); omega)
  · have hp : w.ownsRow lo 3 1 (.slice (some ⟨g, 0, none⟩) B.length cp) B.length (B.map (Value.int .i64)) := ownsRow_pop (last := [.int .i64 x]) (by simp) (by have := h.behind; rwa [List.length_append, List.length_singleton, List.map_append, List.map_singleton] at this)
    refine own_of_block hp fun k e => ?_
    have e : g = k := by injection e
    subst e
    exact (hset g gb).trans (hk g hgb.2 (fun e => h.apart g e rfl))
  · have e : gq = k := by injection e
    subst e
    intro e
    exact gg (by injection e with e; exact e.symm)
  · exact gqb (by injection e)
  · exact gb (by injection e)
  · have q := Below.grown (((Gn.below_drew (Below.refl lo w)).alloc (show lo ≤ w.heap.size by omega) o)) hg (by simp; show lo ≤ w.heap.size + 1; omega) (fun k e => (own_base h.ahead e).1)
    exact (q.setCell hlow _).setCell hlow _
/-- All but the box and the row ahead is as it was; that row is the same one, or new. -/
def Fr (b : Nat) (va : Value) (W : World) (v : Value) (w' : World) : Prop := (∀ k, k < W.heap.size → k ≠ b → va.ownBlock ≠ some k → w'.heap[k]? = W.heap[k]?) ∧ (v.ownBlock = va.ownBlock ∨ ∀ g, v.ownBlock = some g → W.heap.size ≤ g)
theorem Fr.refl (b : Nat) (va : Value) (W : World) : Fr b va W va W := ⟨fun _ _ _ _ => rfl, .inl rfl⟩
theorem Fr.step {b gq n c : Nat} {va v : Value} {W w w5 : World} (h : Fr b va W v w) (hs : W.heap.size ≤ w.heap.size) (hm : ∀ k, k < w.heap.size → k ≠ b → v.ownBlock ≠ some k → w5.heap[k]? = w.heap[k]?) (ha : v.ownBlock = some gq ∨ w.heap.size ≤ gq) : Fr b va W (.slice (some ⟨gq, 0, none⟩) n c) w5 := by
  refine ⟨fun k h1 h2 h3 => (hm k (by omega) h2 ?_).trans (h.1 k h1 h2 h3), ?_⟩
  · rcases h.2 with e | e
    · rw [e]; exact h3
    · intro e2
      have := e k e2
      omega
  · rcases ha with e | e
    · rcases h.2 with e2 | e2
      · left
        show some gq = va.ownBlock
        rw [← e2, e]
      · right
        intro g eg
        have eg : gq = g := by injection eg
        subst eg
        exact e2 _ e
    · right
      intro g eg
      have eg : gq = g := by injection eg
      omega
def Skipped (lo b : Nat) (now : List Int) (va : Value) (W w' : World) : Prop := ∃ A' B' va' vb', SyAt lo b A' B' va' vb' w' ∧ Stand A' B' now ∧ (∀ B2 x, B' = B2 ++ [x] → ¬ x < 0) ∧ Below lo W w' ∧ Fr b va W va' w'
set_option maxHeartbeats 8000000 in
theorem skip_any (lo b : Nat) (now : List Int) (hnow : now.length ≤ 1099511627776) (A B : List Int) (va vb : Value) (W : World) (h : SyAt lo b A B va vb W) (hs : Stand A B now) :
    Calls Try.prog 74 #[.pointer (some ⟨b, 0, none⟩)] W fun e w' => e = .returned (.tuple #[]) ∧ Skipped lo b now va W w' := by
  obtain ⟨i0, hi0, hz0, hz1, hz2⟩ := info_parts Fx.iinfo
  have H := Lib.hid h
  have HS := Lib.hid hs
  have hbl : B.length ≤ 1099511627776 := by have e : A.length + B.length = now.length := by rw [← hs.all]; simp
                                            omega
  obtain ⟨Ab, cb, rfl⟩ := Gn.slice_of h.behind
  have b1 := cell_of_row _ _ 1 _ _ (0, 0) h.box
  clear h hs
  go_enter Try.func74, Try.ntmps74
  go_wp2_with fail
  go_loopw [2] (fun x wr => ∃ A1 B1 va1 vb1, x = .int .i64 ((B1.length : Int) - 1) ∧ SyAt lo b A1 B1 va1 vb1 wr ∧ Stand A1 B1 now ∧ Below lo W wr ∧ Fr b va W va1 wr) (fun x _ => (intOf x + 1).toNat)
  case atStart => exact ⟨A, B, va, _, rfl, H.out, HS.out, Below.refl _ _, Fr.refl _ _ _⟩
  case round =>
    obtain ⟨A1, B1, va1, vb1, rfl, h1, hs1, hb1, hfr⟩ := hrel
    have HFR := Lib.hid hfr
    clear hfr
    rcases hs1.last with rfl | ⟨B2, x, rfl⟩
    · have H1 := Lib.hid h1
      have HS1 := Lib.hid hs1
      have HB1 := Lib.hid hb1
      clear h1 hs1 hb1 b1
      go_wp2_with fail
      go_end0
      exact ⟨rfl, A1, [], va1, vb1, H1.out, HS1.out, fun B2 x e => by simp at e, HB1.out, HFR.out⟩
    · have hl : A1.length + (B2.length + 1) = now.length := by rw [← hs1.all]; simp
      have hbh := h1.behind
      rw [List.length_append, List.length_singleton] at hbh ⊢
      rcases hbh.2 with ⟨_, e0⟩ | ⟨g, cp, cur, rfl, hlg, hgh, hcp, _⟩
      · omega
      have hgz := Gn.heap_lt hgh
      clear hgh
      obtain ⟨Aa, ca, rfl⟩ := Gn.slice_of h1.ahead
      have gx : wr.cell? ⟨g, B2.length, none⟩ = some (.int .i64 x) := by
        have := hbh.cells (g := g) rfl B2.length (.int .i64 x) (by simp)
        rwa [Gn.add_row] at this
      have c0 := cell_of_row _ _ 0 _ _ (0, 0) h1.box
      have c1 := cell_of_row _ _ 1 _ _ (0, 0) h1.box
      obtain ⟨n, hn⟩ : ∃ n, n = B2.length := ⟨_, rfl⟩
      obtain ⟨m, hm⟩ : ∃ m, m = A1.length := ⟨_, rfl⟩
      have H1 := Lib.hid h1
      have HS1 := Lib.hid hs1
      have HB1 := Lib.hid hb1
      have HBH := Lib.hid hbh
      rw [← hn] at gx c1 hl hcp ⊢
      rw [← hm] at c0 hl
      have HN := Lib.hid hn
      have HM := Lib.hid hm
      have hi1 : ((n + 1 : Nat) : Int) - 1 = (n : Int) := by omega
      rw [hi1]
      clear h1 hs1 hb1 hbh hn hm b1
      by_cases hx : x < 0
      rotate_left
      · go_wp2_with fail
        go_end0
        exact ⟨rfl, A1, B2 ++ [x], _, _, H1.out, HS1.out, fun B3 y e => by
          have := List.append_inj_right' e rfl
          injection this with this
          rw [← this]; omega, HB1.out, HFR.out⟩
      have z0 := cell_al c0
      have hnn : (n : Int) < (n : Int) + 1 := by omega
      go_upto_region 3 with fail
      have HBZ := Lib.hid (Gn.heap_lt H1.out.box)
      have hml : m ≤ 1099511627776 := by omega
      go_region_law (refine step_append_lies _ rfl (.tmp 27) (.tmp 35) 22 rfl lo 3 i0 (.int .i64 0) 1 8 Try.underlying22 hi0 hz0 hz1 hz2 rfl (by decide) (.slice Aa m ca) m (A1.map (Value.int .i64)) (by simp [Act.eval]) (by rw [HM.out]; exact H1.out.ahead.drew.alloc _) ⟨wr.heap.size, 0, none⟩ 1 1 [.int .i64 x] (by simp [Act.eval]) rfl (Gn.row_new _ [.int .i64 x] _ _ rfl) (by simp [Value.oneCell']) (by decide) (by unfold maxLen; omega) (by omega) (by have := H1.out.low; have := HBZ.out; simp; omega) _ rfl ?_; intro gq cap' w4 hown4 hgrow4 hat4 hlt4; have HO4 := Lib.hid hown4; have HG4 := Lib.hid hgrow4; have HA4 := Lib.hid hat4; have hx4 := (hgrow4.block b (by have := HBZ.out; simp; omega) (fun e => H1.out.offA (by rw [← HM.out]; exact e.symm))).trans ((heap_alloc_old wr.drew _ HBZ.out).trans H1.out.box); have HX4 := Lib.hid hx4; have c4 := cell_of_row _ _ 0 _ _ (0, 0) hx4; have f4 := Gn.frozen_row hx4 0; clear hx4; clear hown4 hgrow4 hat4 hlt4)
      all_goals
        have hmv := SyAt.moved (by have := H1.out; first | exact this | (rw [HN.out] at this; exact this)) (by rw [← HM.out]; exact HO4.out) (by have := HG4.out; rw [HM.out] at this; exact this) (by have := HA4.out; rw [HM.out] at this; exact this.imp id (fun e => by rw [e]; show wr.heap.size ≤ (wr.alloc _).heap.size; simp))
        rw [← HM.out, ← HN.out] at hmv
        have HMV := Lib.hid hmv
        have hx5 := Gn.heap_set HX4.out 0 (.slice (some ⟨gq, 0, none⟩) (m + 1) cap')
        have k1 := cell_of_row _ _ 1 _ _ (0, 0) hx5
        have k2 := Gn.frozen_row hx5 1
        have HBM := Lib.hid (HB1.out.trans hmv.2.1)
        have HFM := Lib.hid ((show Fr b va W (.slice Aa m ca) wr by have := HFR.out; rwa [← HM.out] at this).step (n := m + 1) (c := cap') HB1.out.size hmv.2.2 (by have := HA4.out; exact this.imp id (fun e => by rw [e]; show wr.heap.size ≤ (wr.alloc _).heap.size; simp)))
        clear hmv hx5 c4 f4 c0 c1 z0 gx
        go_wp2_with fail
        go_roundw
        case rel => exact ⟨A1 ++ [x], B2, _, _, by rw [← HN.out], HMV.out.1, HS1.out.skip hx, HBM.out, HFM.out⟩
        case measure => simp [intOf]; try omega
end Go.Proofs.Ytjlppffkacimoaa.Tr
