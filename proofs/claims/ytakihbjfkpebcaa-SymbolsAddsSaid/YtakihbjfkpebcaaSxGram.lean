/-
  The walk of grammar.
-/
import Derived.Test.YtakihbjfkpebcaaSxRules
import Derived.Test.YtakihbjfkpebcaaSxTrees
import Derived.Deep.RegionLaw
import Derived.Deep.RegionHeld3
import Derived.Deep.AppendLies
namespace Go.Proofs.Ytakihbjfkpebcaa.Sx
open Go.RowKit
open Lx (Tk Toks)
set_option maxRecDepth 100000

/-- A grammar is told, all of it new. -/
def GV (lo : Nat) : Gram → Value → World → Prop := fun G x w' => ∃ y, x = .agg #[.string (Lx.mk G.start), y] ∧ RlsAt (fun r => lo ≤ r) w' G.rules y

theorem PAt.same {W W' : World} {g r : Nat} {ts : List Tk} {cap i d : Nat} (h : PAt W g r ts cap i d) (e : W'.heap = W.heap) : PAt W' g r ts cap i d := by
  refine ⟨by rw [e]; exact h.blk, ⟨by rw [e]; exact h.tok.1, fun q u hk => ?_⟩, h.le, h.lt⟩
  have := h.tok.2 q u hk
  unfold World.cell? at this ⊢
  rw [e]
  exact this
section
variable {W0 W W' : World} {g r : Nat} {ts : List Tk} {cap i j : Nat} {s : List UInt8} {A : Option Addr} {cp : Nat} {acc : List Rul}
theorem GrAt.same (h : GrAt W0 g r ts cap s W A cp acc i) (e1 : W'.heap = W.heap) (e2 : W'.os = W.os) (e3 : W'.tape = W.tape) (e4 : W'.output = W.output) : GrAt W0 g r ts cap s W' A cp acc i :=
  ⟨h.par.same e1, by rw [e1]; exact h.res, by rw [e1]; exact h.gv, h.items.keep (by rw [e1]; exact Nat.le_refl _) (fun _ _ _ => by rw [e1]), ⟨e2.trans h.sep.os, e3.trans h.sep.tape, e4.trans h.sep.output, by rw [e1]; exact h.sep.size, fun k hk hg => by rw [e1]; exact h.sep.block k hk hg⟩, by rw [e1]; exact h.size⟩
theorem GrAt.done (h : GrAt W0 g r ts cap s W A cp acc i) (v y : Value) : ((W.setCell ⟨W0.heap.size, 0, none⟩ v).setCell ⟨W0.heap.size, 1, none⟩ y).heap[W0.heap.size]? = some (.cells #[v, y] 25 (0, 0)) :=
  Lx.heap_set (Lx.heap_set h.res 0 _) 1 _
theorem gram_end (h : GrAt W0 g r ts cap s W A cp acc i) (hg : g < W0.heap.size) :
    Out W0 g r ts cap 0 (.ok (Gram.mk s acc) i) (GV W0.heap.size) (.returned (.agg #[.string (Lx.mk s), .slice A acc.length cp])) ((W.setCell ⟨W0.heap.size, 0, none⟩ (.string (Lx.mk s))).setCell ⟨W0.heap.size, 1, none⟩ (.slice A acc.length cp)) := by
  have hp := h.par
  have hlt := hp.lt
  have keep : ∀ (v y : Value) (k : Nat), W0.heap.size ≠ k → ((W.setCell ⟨W0.heap.size, 0, none⟩ v).setCell ⟨W0.heap.size, 1, none⟩ y).heap[k]? = W.heap[k]? := fun v y k hk => (Lx.set_keep _ 1 _ hk).trans (Lx.set_keep _ 0 _ hk)
  have hs : ∀ v y : Value, ((W.setCell ⟨W0.heap.size, 0, none⟩ v).setCell ⟨W0.heap.size, 1, none⟩ y).heap.size = W.heap.size := fun v y => by simp [World.setCell]
  refine ⟨_, rfl, ⟨_, rfl, h.items.rls.keep (by rw [hs]; exact Nat.le_refl _) fun q hq _ => ⟨by omega, fun j => ?_⟩⟩, ⟨(keep _ _ _ (by omega)).trans hp.blk, ⟨by rw [hs]; exact hp.tok.1, fun k u hk => ?_⟩, hp.le, hlt⟩, (h.sep.setCell (.inr (Nat.le_refl _)) _).setCell (.inr (Nat.le_refl _)) _⟩
  · have := keep (.string (Lx.mk s)) (.slice A acc.length cp) q (by omega)
    unfold World.cell?
    simp only [this]
  · have := keep (.string (Lx.mk s)) (.slice A acc.length cp) r (by omega)
    have e := hp.tok.2 k u hk
    unfold World.cell? at e ⊢
    simp only [this]
    exact e
/-- Behind an append of a rule, and its store. -/
theorem GrAt.snoc {W1 w4 : World} {lo : Nat} {n : List UInt8} {t : Tree} {x y z : Value} {o : Obj} {gq cp' : Nat} (h : GrAt W0 g r ts cap s W1 A cp acc i) (hg : g < W0.heap.size) (hlo : W0.heap.size + 2 ≤ lo) (hown : ∀ k, (Value.slice A acc.length cp).ownBlock = some k → k < lo) (hn : Nd (fun q => lo ≤ q) W1 t x y z)
    (hown4 : ∀ vs : List (Value × Value × Value × Value), W1.ownsRow (W0.heap.size + 2) 65 4 (.slice A acc.length cp) acc.length (cells4 vs) → w4.ownsRow (W0.heap.size + 2) 65 4 (.slice (some ⟨gq, 0, none⟩) (acc.length + 1) cp') (acc.length + 1) (cells4 vs ++ [.string (Lx.mk n), x, y, z]))
    (hgr : (W1.alloc o).grownBy w4 (Value.slice A acc.length cp).ownBlock) (hat : (Value.slice A acc.length cp).ownBlock = some gq ∨ gq = (W1.alloc o).heap.size) :
    w4.heap[W0.heap.size + 1]? = some (.cells #[.string (Lx.mk s), .slice A acc.length cp] 25 (0, 0)) ∧ GrAt W0 g r ts cap s (w4.setCell ⟨W0.heap.size + 1, 1, none⟩ (.slice (some ⟨gq, 0, none⟩) (acc.length + 1) cp')) (some ⟨gq, 0, none⟩) cp' (acc ++ [(n, t)]) i := by
  have hsz := h.size
  have hb := h.items.own_lt
  obtain ⟨A2, cp2, hv, hit⟩ := h.items.snoc hlo hown hn hown4 hgr (hat.elim (fun h => .inl (by rw [h]; rfl)) (fun h => .inr (by subst h; rfl)))
  injection hv with e1 _ e2
  subst e1
  subst e2
  have keep : ∀ k, k < W1.heap.size → k ≤ W0.heap.size + 1 → w4.heap[k]? = W1.heap[k]? := fun k hk hk2 =>
    (hgr.block k (by simp; omega) (fun e => by have := (hb k e.symm).2; omega)).trans (heap_alloc_old W1 o hk)
  have hpl := Lx.heap_lt h.par.blk
  have hlt := h.par.lt
  have hsz4 : W1.heap.size + 1 ≤ w4.heap.size := by have := hgr.size; simp at this; omega
  have hgv := (keep _ (Lx.heap_lt h.gv) (Nat.le_refl _)).trans h.gv
  have hset : ∀ b, W0.heap.size + 1 ≠ b → (w4.setCell ⟨W0.heap.size + 1, 1, none⟩ (.slice (some ⟨gq, 0, none⟩) (acc.length + 1) cp')).heap[b]? = w4.heap[b]? := fun b hb => Lx.set_keep w4 1 _ hb
  have hszs : (w4.setCell ⟨W0.heap.size + 1, 1, none⟩ (.slice (some ⟨gq, 0, none⟩) (acc.length + 1) cp')).heap.size = w4.heap.size := by simp [World.setCell]
  refine ⟨hgv, ⟨((hset _ (by omega)).trans (keep g hpl (by omega))).trans h.par.blk, ⟨by rw [hszs]; have := h.par.tok.1; omega, fun k u hk => ?_⟩, h.par.le, hlt⟩, ((hset _ (by omega)).trans (keep _ (by omega) (by omega))).trans h.res, ?_, hit.keep (by rw [hszs]; exact Nat.le_refl _) fun q hq _ => hset q (by omega), ?_, by rw [hszs]; omega⟩
  · have e := h.par.tok.2 k u hk
    have hk2 := (hset r (by omega)).trans (keep r h.par.tok.1 (by omega))
    unfold World.cell? at e ⊢
    simp only [hk2]
    exact e
  · have := Lx.heap_set hgv 1 (.slice (some ⟨gq, 0, none⟩) (acc.length + 1) cp')
    rw [show (acc ++ [(n, t)]).length = acc.length + 1 by simp]
    exact this
  · refine Lx.Sep.setCell (h.sep.trans ⟨hgr.os, hgr.tape, hgr.output, by omega, fun k hk _ => keep k (by omega) (by omega)⟩) (.inr (by simp)) _
end
/-- A panic with these entries, all but the parser as it was. -/
def PanicP (g : Nat) (W : World) (ch : List PanicEntry) : Exit → Act → World → Prop := fun e a w' => e = .panic ch ∧ a.defers = [] ∧ Lx.Sep g W.heap.size W w'
theorem frozen_row {W : World} {b : Nat} {cs : Array Value} {t : TypeId} (h : W.heap[b]? = some (.cells cs t (0, 0))) : ∀ j, W.frozen? ⟨b, j, none⟩ = false := fun j => by simp [World.frozen?, h]
theorem rule_kind {ts : List Tk} {f i j : Nat} {v : Rul} (h : pRule ts f i = some (.ok v j)) : (tkAt ts i).kind = 1 := by
  unfold pRule at h
  rcases res_some h with ⟨l, c, e, _, h2⟩ | ⟨n, k, h1, _⟩
  · cases h2
  · unfold nam at h1
    split at h1
    · assumption
    · unfold Res.bad at h1; cases h1
theorem rule_inb {ts : List Tk} (hE : Ended ts) {f i : Nat} {v : Rul} {j : Nat} (h : pRule ts f i = some (.ok v j)) : j < ts.length := by
  unfold pRule at h
  rcases res_some h with ⟨l, c, e, _, h2⟩ | ⟨n, k, h1, h2⟩
  · cases h2
  · have hk := (nam_at h1)
    have hk1 : k < ts.length := by
      have := hE i (by have := rule_kind (ts := ts) (f := f) (i := i) (v := v) (j := j) (by unfold pRule; exact h); rw [this]; decide)
      omega
    rcases res_some h2 with ⟨l, c, e, _, h4⟩ | ⟨u, k2, h3, h4⟩
    · cases h4
    · have hk2 := need_inb hE u k2 h3
      rcases bind_some h4 with ⟨l, c, e, _, h6⟩ | ⟨t, k3, h5, h6⟩
      · cases h6
      · have hk3 := (inb_all ts hE f).1 0 k2 hk2 t k3 h5
        rcases res_some h6 with ⟨l, c, e, _, h8⟩ | ⟨u2, k4, h7, h8⟩
        · cases h8
        · have hk4 := need_inb hE u2 k4 h7
          injection h8 with h8
          injection h8 with _ h8
          omega
/-- How far grammar's loop is. -/
def GrmAt (W0 : World) (ts : List Tk) (g r cap f : Nat) (s : List UInt8) (RR : Res (List Rul)) (W : World) : Prop :=
  ∃ (f' i cp : Nat) (A : Option Addr) (acc : List Rul), f' ≤ f ∧ i < ts.length ∧ acc.length ≤ 64 ∧ pRules ts f' i acc = some RR ∧ GrAt W0 g r ts cap s W A cp acc i

set_option maxHeartbeats 16000000 in
theorem gram_any (ts : List Tk) (hE : Ended ts) (hn : ts.length ≤ 65537) (f : Nat) (W : World) (g r cap : Nat) (R : Res Gram) (hp : PAt W g r ts cap 0 0) (hi : 0 < ts.length) (hR : pGram ts f = some R) :
    Calls Try.prog 51 #[.pointer (some ⟨g, 0, none⟩)] W (Out W g r ts cap 0 R (GV W.heap.size)) := by
  have hg := Lx.heap_lt hp.blk
  have HS := Lib.hid (GrAt.start hp)
  clear hp
  obtain ⟨i0, hi0, hz0, hz1, hz2⟩ := info_parts ruinfo
  have KS := skip_any _ g r ts cap 0 0 37 HS.out.par hE hi (by omega)
  unfold pGram at hR
  cases hsg : isSg ts 0 37
  · rw [hsg, if_neg (by decide)] at hR
    rw [show skp ts 0 37 = .ok false 0 by unfold skp; rw [hsg]; rfl] at KS
    obtain ⟨RR, hRR, hR2⟩ : ∃ RR, pRules ts f 0 [] = some RR ∧ (RR.bind fun rs m => some (.ok (Gram.mk (rs.headD ([], .node 0 [] [])).1 rs) m)) = some R := by
      cases h : pRules ts f 0 [] with
      | none => rw [h] at hR; cases hR
      | some RR => rw [h] at hR; exact ⟨RR, rfl, hR⟩
    have HK := Lib.hid KS
    have HRR := Lib.hid hRR
    have HR2 := Lib.hid hR2
    clear KS hRR hR2 hR hsg
    go_enter Try.func51, Try.ntmps51
    go_wp2_with fail
    refine HK.out.mono ?_
    rintro e w1 ⟨x, rfl, rfl, hp1, hs1⟩
    have H1 := Lib.hid (HS.out.call hg hp1 hs1)
    clear hp1 hs1
    go_wp2_with fail
    go_loopw [13] (fun _ wr => GrmAt W ts g r cap f [] RR wr) (fun _ wr => ts.length - atOf wr g)
    case atStart => exact ⟨f, 0, 0, none, [], Nat.le_refl _, hi, by simp, HRR.out, H1.out⟩
    case round =>
      obtain ⟨f', i', cp, A, acc, hf', hi', hl64, hM, hG⟩ := hrel
      have hat := atOf_is hG.par
      have HAT := Lib.hid hat
      have HG := Lib.hid hG
      obtain ⟨g0, g1, gf⟩ := hG.facts
      have hsz := hG.size
      clear hat
      cases f' with
      | zero => simp [pRules] at hM
      | succ f'' =>
        rw [pRules] at hM
        have KI4 := is_any wr g r ts cap i' 0 4 hG.par hi'
        have KI1 := fun n => is_any (wr.drewN n) g r ts cap i' 0 1 (hG.par.drewN n) hi'
        by_cases h0 : acc.length = 0
        · rw [if_pos (.inl h0), if_neg (by omega)] at hM
          have e0 : ((acc.length : Int) == 0) = true := by rw [beq_iff_eq]; omega
          have e64 : ((acc.length : Int) == 64) = false := by rw [beq_eq_false_iff_ne]; omega
          have hl63 : acc.length ≤ 63 := by omega
          clear KI4 KI1 h0
          rcases bind_some hM with ⟨l, c, q, h1, hRR1⟩ | ⟨⟨vn, vt⟩, j2, h1, h2⟩
          · have KX := fun w (hw : PAt w g r ts cap i' 0) => rule_any ts hE hn f'' w g r cap i' _ hw hi' h1
            have HX := Lib.hid KX
            have h2 := HR2.out
            subst hRR1
            injection h2 with h2
            subst h2
            clear KX h1 hM hG
            go_wp2_with fail
            refine Code.wp_mono (Q := PanicP g W [{ v := .iface 67 (.agg #[.int .i64 l, .int .i64 c, .int .i64 q]), recovered := false }]) ?himp ?hmain
            case hmain =>
              refine wp_region_any (by kernel_rfl) ?_
              change wpAny _ _ _ _ _ _ _ (World.drew _)
              refine wpAny_take (i := 0) (v := ?_) rfl (by kernel_rfl) (by kernel_rfl) (by kernel_rfl) (fun _ _ _ h => h) (Or.inl ⟨by rfl, ?_⟩) ?_
              rotate_left
              · intro w; go_simp; with_reducible rfl
              refine wpAny_take (i := 2) (v := ?_) rfl (by kernel_rfl) (by kernel_rfl) (by kernel_rfl) (fun _ _ _ h => h) (Or.inl ⟨by rfl, ?_⟩) ?_
              rotate_left
              · intro w; go_simp; with_reducible rfl
              refine wpAny_ready (rs := [1, 3]) (by kernel_rfl) (by simp) ?_
              refine AllReady.cons rfl (fun K hK => ?_) ?_
              · go_simp
                refine hK _ _ ?_
                clear hK K
                refine wpAny_ready (rs := [3]) (by kernel_rfl) (by simp) ?_
                refine AllReady.cons rfl (fun K hK => ?_) AllReady.nil
                go_simp
                refine (HX.out _ (HG.out.par.same ?_)).mono ?_
                · rfl
                rintro e w3 ⟨rfl, hs3⟩
                exact ⟨rfl, rfl, GrAt.bad (W0 := W) (s := []) (A := A) (cp := cp) (acc := acc) (i := i') (by exact GrAt.same HG.out rfl rfl rfl rfl) hs3⟩
              · refine AllReady.cons rfl (fun K hK => ?_) AllReady.nil
                go_simp
                refine (HX.out _ (HG.out.par.same ?_)).mono ?_
                · rfl
                rintro e w3 ⟨rfl, hs3⟩
                exact ⟨rfl, rfl, GrAt.bad (W0 := W) (s := []) (A := A) (cp := cp) (acc := acc) (i := i') (by exact GrAt.same HG.out rfl rfl rfl rfl) hs3⟩
            case himp =>
              rintro e a w' ⟨rfl, hd, hfin⟩
              go_wp2
              exact ⟨hd, rfl, hfin⟩
          · have KX := fun w (hw : PAt w g r ts cap i' 0) => rule_any ts hE hn f'' w g r cap i' _ hw hi' h1
            have HX := Lib.hid KX
            have hj2 := rule_inb hE h1
            have hj3 := rule_adv ts f'' i' _ _ h1
            have H2x := Lib.hid h2
            have hown := hG.items.own_lt
            have HOWN := Lib.hid hown
            clear KX h1 h2 hM hG hown
            go_wp2_with fail
            go_region_law (first | (refine step_append_lies _ rfl (.tmp 33) (.tmp 36) 23 rfl (W.heap.size + 2) 65 i0 _ 4 64 Try.underlying23 hi0 hz0 hz1 hz2 rfl (by decide) (.slice A acc.length cp) acc.length (cells4 vs) (by simp [Act.eval]) (HV.out.alloc _) ⟨w3.heap.size, 0, none⟩ 1 1 [.string (Lx.mk vn), .int .i64 kb, .string tb, .slice Ab nb cb] (by simp [Act.eval]) rfl (Lx.row_new _ [.string (Lx.mk vn), .int .i64 kb, .string tb, .slice Ab nb cb] _ _ rfl) (by simp [Value.oneCell']) (by decide) (by unfold maxLen; omega) (by omega) (by simp; omega) _ rfl ?_; intro gq cap' w4 hown4 hgrow4 hat4 hlt4; have hsn := H3.out.snoc hg HLO.out (fun k hk => Nat.lt_of_lt_of_le (HOWN.out k hk).1 HSZ.out) HN.out (fun vs2 hv2 => by rw [owns_uniq hv2 HV.out]; exact hown4) hgrow4 hat4; obtain ⟨hgv, h4⟩ := hsn; have u1 := cell_of_row _ _ 1 _ _ (0, 0) hgv; have uf := frozen_row hgv; have H4 := Lib.hid h4; clear hgv h4 hown4 hgrow4 hat4 hlt4) | (go_simp; go_at_call 70; refine (HX.out _ (HG.out.par.same ?_)).mono ?_; rfl; rintro e w3 ⟨x, rfl, ⟨xa, xb, xc, rfl, hnd⟩, hp3, hs3⟩; have h3 : GrAt W g r ts cap [] w3 A cp acc j2 := GrAt.call (W0 := W) (s := []) (A := A) (cp := cp) (acc := acc) (i := i') (by exact GrAt.same HG.out rfl rfl rfl rfl) hg hp3 hs3; obtain ⟨kb, tb, Ab, nb, cb, rfl, rfl, rfl⟩ := hnd.form; obtain ⟨vs, hv1, hv2, hv3⟩ := h3.items; obtain ⟨d0, d1, df⟩ := h3.facts; have hsz3 := h3.size; have d1a := fun o : Obj => (((Below.refl w3.heap.size w3).alloc (Nat.le_refl _) o).cell (p := ⟨W.heap.size + 1, 1, none⟩) (Nat.lt_of_lt_of_le (Nat.lt_succ_self _) hsz3)).trans d1; have HLO := Lib.hid hsz; have HSZ := Lib.hid (Nat.le_refl wr.heap.size); have HV := Lib.hid hv2; have H3 := Lib.hid h3; have HN := Lib.hid (hnd.keep (Q := fun q => wr.heap.size ≤ q) (Nat.le_refl _) fun q hq _ => ⟨hq, fun _ => rfl⟩); clear h3 hp3 hs3 hv1 hv2 hv3 hnd))
            all_goals
              go_wp2
              go_roundw
              case rel => exact ⟨f'', j2, cap', some ⟨gq, 0, none⟩, acc ++ [(vn, vt)], by omega, hj2, by simp; omega, H2x.out, H4.out⟩
              case measure =>
                rw [HAT.out, atOf_is H4.out.par]
                omega
        · by_cases hk4 : (tkAt ts i').kind = 4
          · rw [if_neg (by omega)] at hM
            injection hM with hM
            have e0 : ((acc.length : Int) == 0) = false := by rw [beq_eq_false_iff_ne]; omega
            have hb : (((tkAt ts i').kind : Int) == ((4 : Nat) : Int)) = true := by rw [hk4]; rfl
            rw [hb] at KI4
            have HI4 := Lib.hid KI4
            have h2 := HR2.out
            rw [← hM] at h2
            injection h2 with h2
            have H2 := Lib.hid h2
            clear KI4 KI1 hb hk4 hM h2 hG
            go_wp2_with fail
            refine HI4.out.mono ?_
            rintro e w1 ⟨rfl, m, rfl⟩
            have h3 := HG.out.drewN m
            obtain ⟨A1, cap1, rr, fa, fb, fc, hA1, hA2, hA3, hA4⟩ := h3.items.rls
            injection hA1 with hA1 _ hA5
            subst hA1
            subst hA5
            obtain ⟨rfl, hrr, hrr2⟩ := hA3 (by omega)
            have hlen : 0 < acc.length := by omega
            obtain ⟨⟨r0, _, _, _⟩, _⟩ := hA4 0 hlen
            obtain ⟨d0, d1, df⟩ := h3.facts
            have h4 := h3.set hg 0 (.string (Lx.mk acc[0].1)) acc[0].1 (some ⟨rr, 0, none⟩) cp h3.items rfl
            obtain ⟨z0, z1, zf⟩ := h3.rfacts
            have H4 := Lib.hid h4
            have hhd : (acc.headD ([], .node 0 [] [])).1 = acc[0].1 := by cases acc with | nil => simp at hlen | cons a l => rfl
            rw [hhd] at H2
            clear h3 h4 hA3 hA4 hhd h0
            simp only [Nat.zero_mul] at r0
            go_wp2
            rw [← H2.out]
            exact bodyPost_ret (results_cell_row rfl _ _ W.heap.size 25 _ (0, 0) _ rfl (H4.out.done _ _) Try.underlying25 rfl rfl) rfl (gram_end H4.out hg)
          · rw [if_pos (.inr hk4)] at hM
            have e0 : ((acc.length : Int) == 0) = false := by rw [beq_eq_false_iff_ne]; omega
            have hb : (((tkAt ts i').kind : Int) == ((4 : Nat) : Int)) = false := by rw [beq_eq_false_iff_ne]; omega
            rw [hb] at KI4
            have HI4 := Lib.hid KI4
            clear KI4 hb
            by_cases h64 : acc.length = 64
            · have e64 : ((acc.length : Int) == 64) = true := by rw [beq_iff_eq]; omega
              by_cases hk1 : (tkAt ts i').kind = 1
              · rw [if_pos ⟨h64, hk1⟩] at hM
                have hb : (((tkAt ts i').kind : Int) == ((1 : Nat) : Int)) = true := by rw [hk1]; rfl
                simp only [hb] at KI1
                have HI1 := Lib.hid KI1
                have KT := fun w (hw : PAt w g r ts cap i' 0) => throw_any w g r ts cap i' 0 6 hw hi'
                have HT := Lib.hid KT
                injection hM with hM
                have h2 := HR2.out
                rw [← hM] at h2
                injection h2 with h2
                subst h2
                clear KI1 hb hk1 hk4 hM h64 h0 KT hG
                go_wp2_with fail
                refine HI4.out.mono ?_
                rintro e w1 ⟨rfl, m, rfl⟩
                go_wp2_with fail
                refine (HI1.out _).mono ?_
                rintro e w1 ⟨rfl, m2, rfl⟩
                go_wp2_with fail
                refine (HT.out _ (HG.out.par.same ?_)).mono ?_
                · rfl
                rintro e w2 ⟨rfl, b2⟩
                have hfin := (HG.out.same (W' := wr.drewN (m + m2)) rfl rfl rfl rfl).bad (Lx.Sep.of_below (g := g) b2)
                clear b2
                go_wp2
                exact ⟨rfl, rfl, hfin⟩
              · rw [if_neg (by omega)] at hM
                have hb : (((tkAt ts i').kind : Int) == ((1 : Nat) : Int)) = false := by rw [beq_eq_false_iff_ne]; omega
                simp only [hb] at KI1
                have HI1 := Lib.hid KI1
                clear KI1 hb h64 h0 hk4
                rcases bind_some hM with ⟨l, c, q, h1, hRR1⟩ | ⟨⟨vn, vt⟩, j2, h1, h2⟩
                · have KX := fun w (hw : PAt w g r ts cap i' 0) => rule_any ts hE hn f'' w g r cap i' _ hw hi' h1
                  have HX := Lib.hid KX
                  have h2 := HR2.out
                  subst hRR1
                  injection h2 with h2
                  subst h2
                  clear KX h1 hM hG
                  go_wp2_with fail
                  refine HI4.out.mono ?_
                  rintro e w1 ⟨rfl, m, rfl⟩
                  go_wp2_with fail
                  refine (HI1.out _).mono ?_
                  rintro e w1 ⟨rfl, m2, rfl⟩
                  go_wp2_with fail
                  refine Code.wp_mono (Q := PanicP g W [{ v := .iface 67 (.agg #[.int .i64 l, .int .i64 c, .int .i64 q]), recovered := false }]) ?himp ?hmain
                  case hmain =>
                    refine wp_region_any (by kernel_rfl) ?_
                    change wpAny _ _ _ _ _ _ _ (World.drew _)
                    refine wpAny_take (i := 0) (v := ?_) rfl (by kernel_rfl) (by kernel_rfl) (by kernel_rfl) (fun _ _ _ h => h) (Or.inl ⟨by rfl, ?_⟩) ?_
                    rotate_left
                    · intro w; go_simp; with_reducible rfl
                    refine wpAny_take (i := 2) (v := ?_) rfl (by kernel_rfl) (by kernel_rfl) (by kernel_rfl) (fun _ _ _ h => h) (Or.inl ⟨by rfl, ?_⟩) ?_
                    rotate_left
                    · intro w; go_simp; with_reducible rfl
                    refine wpAny_ready (rs := [1, 3]) (by kernel_rfl) (by simp) ?_
                    refine AllReady.cons rfl (fun K hK => ?_) ?_
                    · go_simp
                      refine hK _ _ ?_
                      clear hK K
                      refine wpAny_ready (rs := [3]) (by kernel_rfl) (by simp) ?_
                      refine AllReady.cons rfl (fun K hK => ?_) AllReady.nil
                      go_simp
                      refine (HX.out _ (HG.out.par.same ?_)).mono ?_
                      · rfl
                      rintro e w3 ⟨rfl, hs3⟩
                      exact ⟨rfl, rfl, GrAt.bad (W0 := W) (s := []) (A := A) (cp := cp) (acc := acc) (i := i') (by exact GrAt.same HG.out rfl rfl rfl rfl) hs3⟩
                    · refine AllReady.cons rfl (fun K hK => ?_) AllReady.nil
                      go_simp
                      refine (HX.out _ (HG.out.par.same ?_)).mono ?_
                      · rfl
                      rintro e w3 ⟨rfl, hs3⟩
                      exact ⟨rfl, rfl, GrAt.bad (W0 := W) (s := []) (A := A) (cp := cp) (acc := acc) (i := i') (by exact GrAt.same HG.out rfl rfl rfl rfl) hs3⟩
                  case himp =>
                    rintro e a w' ⟨rfl, hd, hfin⟩
                    go_wp2
                    exact ⟨hd, rfl, hfin⟩
                · exact absurd (rule_kind h1) hk1
            · rw [if_neg (by omega)] at hM
              have e64 : ((acc.length : Int) == 64) = false := by rw [beq_eq_false_iff_ne]; omega
              clear KI1 h0 hk4
              rcases bind_some hM with ⟨l, c, q, h1, hRR1⟩ | ⟨⟨vn, vt⟩, j2, h1, h2⟩
              · have KX := fun w (hw : PAt w g r ts cap i' 0) => rule_any ts hE hn f'' w g r cap i' _ hw hi' h1
                have HX := Lib.hid KX
                have h2 := HR2.out
                subst hRR1
                injection h2 with h2
                subst h2
                clear KX h1 hM hG
                go_wp2_with fail
                refine HI4.out.mono ?_
                rintro e w1 ⟨rfl, m, rfl⟩
                go_wp2_with fail
                refine Code.wp_mono (Q := PanicP g W [{ v := .iface 67 (.agg #[.int .i64 l, .int .i64 c, .int .i64 q]), recovered := false }]) ?himp ?hmain
                case hmain =>
                  refine wp_region_any (by kernel_rfl) ?_
                  change wpAny _ _ _ _ _ _ _ (World.drew _)
                  refine wpAny_take (i := 0) (v := ?_) rfl (by kernel_rfl) (by kernel_rfl) (by kernel_rfl) (fun _ _ _ h => h) (Or.inl ⟨by rfl, ?_⟩) ?_
                  rotate_left
                  · intro w; go_simp; with_reducible rfl
                  refine wpAny_take (i := 2) (v := ?_) rfl (by kernel_rfl) (by kernel_rfl) (by kernel_rfl) (fun _ _ _ h => h) (Or.inl ⟨by rfl, ?_⟩) ?_
                  rotate_left
                  · intro w; go_simp; with_reducible rfl
                  refine wpAny_ready (rs := [1, 3]) (by kernel_rfl) (by simp) ?_
                  refine AllReady.cons rfl (fun K hK => ?_) ?_
                  · go_simp
                    refine hK _ _ ?_
                    clear hK K
                    refine wpAny_ready (rs := [3]) (by kernel_rfl) (by simp) ?_
                    refine AllReady.cons rfl (fun K hK => ?_) AllReady.nil
                    go_simp
                    refine (HX.out _ (HG.out.par.same ?_)).mono ?_
                    · rfl
                    rintro e w3 ⟨rfl, hs3⟩
                    exact ⟨rfl, rfl, GrAt.bad (W0 := W) (s := []) (A := A) (cp := cp) (acc := acc) (i := i') (by exact GrAt.same HG.out rfl rfl rfl rfl) hs3⟩
                  · refine AllReady.cons rfl (fun K hK => ?_) AllReady.nil
                    go_simp
                    refine (HX.out _ (HG.out.par.same ?_)).mono ?_
                    · rfl
                    rintro e w3 ⟨rfl, hs3⟩
                    exact ⟨rfl, rfl, GrAt.bad (W0 := W) (s := []) (A := A) (cp := cp) (acc := acc) (i := i') (by exact GrAt.same HG.out rfl rfl rfl rfl) hs3⟩
                case himp =>
                  rintro e a w' ⟨rfl, hd, hfin⟩
                  go_wp2
                  exact ⟨hd, rfl, hfin⟩
              · have KX := fun w (hw : PAt w g r ts cap i' 0) => rule_any ts hE hn f'' w g r cap i' _ hw hi' h1
                have HX := Lib.hid KX
                have hj2 := rule_inb hE h1
                have hj3 := rule_adv ts f'' i' _ _ h1
                have H2x := Lib.hid h2
                have hown := hG.items.own_lt
                have HOWN := Lib.hid hown
                clear KX h1 h2 hM hG hown
                go_wp2_with fail
                refine HI4.out.mono ?_
                rintro e w1 ⟨rfl, m, rfl⟩
                go_wp2_with fail
                go_region_law (first | (refine step_append_lies _ rfl (.tmp 33) (.tmp 36) 23 rfl (W.heap.size + 2) 65 i0 _ 4 64 Try.underlying23 hi0 hz0 hz1 hz2 rfl (by decide) (.slice A acc.length cp) acc.length (cells4 vs) (by simp [Act.eval]) (HV.out.alloc _) ⟨w3.heap.size, 0, none⟩ 1 1 [.string (Lx.mk vn), .int .i64 kb, .string tb, .slice Ab nb cb] (by simp [Act.eval]) rfl (Lx.row_new _ [.string (Lx.mk vn), .int .i64 kb, .string tb, .slice Ab nb cb] _ _ rfl) (by simp [Value.oneCell']) (by decide) (by unfold maxLen; omega) (by omega) (by simp; omega) _ rfl ?_; intro gq cap' w4 hown4 hgrow4 hat4 hlt4; have hsn := H3.out.snoc hg HLO.out (fun k hk => Nat.lt_of_lt_of_le (HOWN.out k hk).1 HSZ.out) HN.out (fun vs2 hv2 => by rw [owns_uniq hv2 HV.out]; exact hown4) hgrow4 hat4; obtain ⟨hgv, h4⟩ := hsn; have u1 := cell_of_row _ _ 1 _ _ (0, 0) hgv; have uf := frozen_row hgv; have H4 := Lib.hid h4; clear hgv h4 hown4 hgrow4 hat4 hlt4) | (go_simp; go_at_call 70; refine (HX.out _ (HG.out.par.same ?_)).mono ?_; rfl; rintro e w3 ⟨x, rfl, ⟨xa, xb, xc, rfl, hnd⟩, hp3, hs3⟩; have h3 : GrAt W g r ts cap [] w3 A cp acc j2 := GrAt.call (W0 := W) (s := []) (A := A) (cp := cp) (acc := acc) (i := i') (by exact GrAt.same HG.out rfl rfl rfl rfl) hg hp3 hs3; obtain ⟨kb, tb, Ab, nb, cb, rfl, rfl, rfl⟩ := hnd.form; obtain ⟨vs, hv1, hv2, hv3⟩ := h3.items; obtain ⟨d0, d1, df⟩ := h3.facts; have hsz3 := h3.size; have d1a := fun o : Obj => (((Below.refl w3.heap.size w3).alloc (Nat.le_refl _) o).cell (p := ⟨W.heap.size + 1, 1, none⟩) (Nat.lt_of_lt_of_le (Nat.lt_succ_self _) hsz3)).trans d1; have HLO := Lib.hid hsz; have HSZ := Lib.hid (Nat.le_refl wr.heap.size); have HV := Lib.hid hv2; have H3 := Lib.hid h3; have HN := Lib.hid (hnd.keep (Q := fun q => wr.heap.size ≤ q) (Nat.le_refl _) fun q hq _ => ⟨hq, fun _ => rfl⟩); clear h3 hp3 hs3 hv1 hv2 hv3 hnd))
                all_goals
                  go_wp2
                  go_roundw
                  case rel => exact ⟨f'', j2, cap', some ⟨gq, 0, none⟩, acc ++ [(vn, vt)], by omega, hj2, by simp; omega, H2x.out, H4.out⟩
                  case measure =>
                    rw [HAT.out, atOf_is H4.out.par]
                    omega
  · rw [hsg, if_pos rfl] at hR
    rcases res_some hR with ⟨l, c, q, h1, rfl⟩ | ⟨u, j, h1, h2⟩
    · rw [show skp ts 0 37 = .no l c q by unfold skp; rw [hsg, h1]; rfl] at KS
      have HK := Lib.hid KS
      clear KS hR h1 hsg
      go_enter Try.func51, Try.ntmps51
      go_wp2_with fail
      refine HK.out.mono ?_
      rintro e w1 ⟨rfl, hs1⟩
      have hfin := HS.out.bad hs1
      clear hs1
      go_wp2
      exact ⟨rfl, rfl, hfin⟩
    · rw [show skp ts 0 37 = .ok true j by unfold skp; rw [hsg, h1]; rfl] at KS
      have hj : j < ts.length := tak_inb hE (isSg_kind hsg) u j h1
      have HK := Lib.hid KS
      have H2 := Lib.hid h2
      clear KS hR h1 h2 hsg
      go_enter Try.func51, Try.ntmps51
      go_wp2_with fail
      refine HK.out.mono ?_
      rintro e w1 ⟨x, rfl, rfl, hp1, hs1⟩
      have H1 := Lib.hid (HS.out.call hg hp1 hs1)
      clear hp1 hs1
      have KN := name_any _ g r ts cap j 0 H1.out.par hE hj (by omega)
      rcases res_some H2.out with ⟨l, c, q, h3, rfl⟩ | ⟨n, k, h3, h4⟩
      · rw [h3] at KN
        have HK2 := Lib.hid KN
        clear KN h3
        go_wp2_with fail
        refine HK2.out.mono ?_
        rintro e w2 ⟨rfl, hs2⟩
        have hfin := H1.out.bad hs2
        clear hs2
        go_wp2
        exact ⟨rfl, rfl, hfin⟩
      · rw [h3] at KN
        have hk : k < ts.length := by
          have h5 := h3
          unfold nam at h5
          split at h5
          · rename_i hk
            have e := (nam_at h3).1
            have := hE j (by rw [hk]; decide)
            omega
          · unfold Res.bad at h5; cases h5
        have HK2 := Lib.hid KN
        have H4 := Lib.hid h4
        clear KN h3 h4
        go_wp2_with fail
        refine HK2.out.mono ?_
        rintro e w2 ⟨x, rfl, rfl, hp2, hs2⟩
        have h2a := H1.out.call hg hp2 hs2
        have h2b := h2a.set hg 0 (.string (Lx.mk n)) n none 0 h2a.items rfl
        obtain ⟨b0, b1, bf⟩ := h2a.facts
        have H2b := Lib.hid h2b
        clear hp2 hs2 h2a h2b
        have KN := need_any _ g r ts cap k 0 59 H2b.out.par hE hk (by omega)
        rcases res_some H4.out with ⟨l, c, q, h5, rfl⟩ | ⟨u2, m, h5, h6⟩
        · rw [h5] at KN
          have HK3 := Lib.hid KN
          clear KN h5
          go_wp2_with fail
          refine HK3.out.mono ?_
          rintro e w3 ⟨rfl, hs3⟩
          have hfin := H2b.out.bad hs3
          clear hs3
          go_wp2
          exact ⟨rfl, rfl, hfin⟩
        · rw [h5] at KN
          have hm : m < ts.length := need_inb hE u2 m h5
          obtain ⟨RR, hRR, hR2⟩ : ∃ RR, pRules ts f m [] = some RR ∧ (RR.bind fun rs m => some (.ok (Gram.mk n rs) m)) = some R := by
            cases h : pRules ts f m [] with
            | none => rw [h] at h6; cases h6
            | some RR => rw [h] at h6; exact ⟨RR, rfl, h6⟩
          have HK3 := Lib.hid KN
          have HRR := Lib.hid hRR
          have HR2 := Lib.hid hR2
          clear KN h5 h6 hRR hR2 H2 H4
          go_wp2_with fail
          refine HK3.out.mono ?_
          rintro e w3 ⟨x, rfl, rfl, hp3, hs3⟩
          have H3 := Lib.hid (H2b.out.call hg hp3 hs3)
          clear hp3 hs3 b0 b1 bf
          go_wp2_with fail
          go_loopw [13] (fun _ wr => GrmAt W ts g r cap f n RR wr) (fun _ wr => ts.length - atOf wr g)
          case atStart => exact ⟨f, m, 0, none, [], Nat.le_refl _, hm, by simp, HRR.out, H3.out⟩
          case round =>
            obtain ⟨f', i', cp, A, acc, hf', hi', hl64, hM, hG⟩ := hrel
            have hat := atOf_is hG.par
            have HAT := Lib.hid hat
            have HG := Lib.hid hG
            obtain ⟨g0, g1, gf⟩ := hG.facts
            have hsz := hG.size
            clear hat
            cases f' with
            | zero => simp [pRules] at hM
            | succ f'' =>
              rw [pRules] at hM
              have KI4 := is_any wr g r ts cap i' 0 4 hG.par hi'
              have KI1 := fun n => is_any (wr.drewN n) g r ts cap i' 0 1 (hG.par.drewN n) hi'
              by_cases h0 : acc.length = 0
              · rw [if_pos (.inl h0), if_neg (by omega)] at hM
                have e0 : ((acc.length : Int) == 0) = true := by rw [beq_iff_eq]; omega
                have e64 : ((acc.length : Int) == 64) = false := by rw [beq_eq_false_iff_ne]; omega
                have hl63 : acc.length ≤ 63 := by omega
                clear KI4 KI1 h0
                rcases bind_some hM with ⟨l, c, q, h1, hRR1⟩ | ⟨⟨vn, vt⟩, j2, h1, h2⟩
                · have KX := fun w (hw : PAt w g r ts cap i' 0) => rule_any ts hE hn f'' w g r cap i' _ hw hi' h1
                  have HX := Lib.hid KX
                  have h2 := HR2.out
                  subst hRR1
                  injection h2 with h2
                  subst h2
                  clear KX h1 hM hG
                  go_wp2_with fail
                  refine Code.wp_mono (Q := PanicP g W [{ v := .iface 67 (.agg #[.int .i64 l, .int .i64 c, .int .i64 q]), recovered := false }]) ?himp ?hmain
                  case hmain =>
                    refine wp_region_any (by kernel_rfl) ?_
                    change wpAny _ _ _ _ _ _ _ (World.drew _)
                    refine wpAny_take (i := 0) (v := ?_) rfl (by kernel_rfl) (by kernel_rfl) (by kernel_rfl) (fun _ _ _ h => h) (Or.inl ⟨by rfl, ?_⟩) ?_
                    rotate_left
                    · intro w; go_simp; with_reducible rfl
                    refine wpAny_take (i := 2) (v := ?_) rfl (by kernel_rfl) (by kernel_rfl) (by kernel_rfl) (fun _ _ _ h => h) (Or.inl ⟨by rfl, ?_⟩) ?_
                    rotate_left
                    · intro w; go_simp; with_reducible rfl
                    refine wpAny_ready (rs := [1, 3]) (by kernel_rfl) (by simp) ?_
                    refine AllReady.cons rfl (fun K hK => ?_) ?_
                    · go_simp
                      refine hK _ _ ?_
                      clear hK K
                      refine wpAny_ready (rs := [3]) (by kernel_rfl) (by simp) ?_
                      refine AllReady.cons rfl (fun K hK => ?_) AllReady.nil
                      go_simp
                      refine (HX.out _ (HG.out.par.same ?_)).mono ?_
                      · rfl
                      rintro e w3 ⟨rfl, hs3⟩
                      exact ⟨rfl, rfl, GrAt.bad (W0 := W) (s := n) (A := A) (cp := cp) (acc := acc) (i := i') (by exact GrAt.same HG.out rfl rfl rfl rfl) hs3⟩
                    · refine AllReady.cons rfl (fun K hK => ?_) AllReady.nil
                      go_simp
                      refine (HX.out _ (HG.out.par.same ?_)).mono ?_
                      · rfl
                      rintro e w3 ⟨rfl, hs3⟩
                      exact ⟨rfl, rfl, GrAt.bad (W0 := W) (s := n) (A := A) (cp := cp) (acc := acc) (i := i') (by exact GrAt.same HG.out rfl rfl rfl rfl) hs3⟩
                  case himp =>
                    rintro e a w' ⟨rfl, hd, hfin⟩
                    go_wp2
                    exact ⟨hd, rfl, hfin⟩
                · have KX := fun w (hw : PAt w g r ts cap i' 0) => rule_any ts hE hn f'' w g r cap i' _ hw hi' h1
                  have HX := Lib.hid KX
                  have hj2 := rule_inb hE h1
                  have hj3 := rule_adv ts f'' i' _ _ h1
                  have H2x := Lib.hid h2
                  have hown := hG.items.own_lt
                  have HOWN := Lib.hid hown
                  clear KX h1 h2 hM hG hown
                  go_wp2_with fail
                  go_region_law (first | (refine step_append_lies _ rfl (.tmp 33) (.tmp 36) 23 rfl (W.heap.size + 2) 65 i0 _ 4 64 Try.underlying23 hi0 hz0 hz1 hz2 rfl (by decide) (.slice A acc.length cp) acc.length (cells4 vs) (by simp [Act.eval]) (HV.out.alloc _) ⟨w3.heap.size, 0, none⟩ 1 1 [.string (Lx.mk vn), .int .i64 kb, .string tb, .slice Ab nb cb] (by simp [Act.eval]) rfl (Lx.row_new _ [.string (Lx.mk vn), .int .i64 kb, .string tb, .slice Ab nb cb] _ _ rfl) (by simp [Value.oneCell']) (by decide) (by unfold maxLen; omega) (by omega) (by simp; omega) _ rfl ?_; intro gq cap' w4 hown4 hgrow4 hat4 hlt4; have hsn := H3.out.snoc hg HLO.out (fun k hk => Nat.lt_of_lt_of_le (HOWN.out k hk).1 HSZ.out) HN.out (fun vs2 hv2 => by rw [owns_uniq hv2 HV.out]; exact hown4) hgrow4 hat4; obtain ⟨hgv, h4⟩ := hsn; have u1 := cell_of_row _ _ 1 _ _ (0, 0) hgv; have uf := frozen_row hgv; have H4 := Lib.hid h4; clear hgv h4 hown4 hgrow4 hat4 hlt4) | (go_simp; go_at_call 70; refine (HX.out _ (HG.out.par.same ?_)).mono ?_; rfl; rintro e w3 ⟨x, rfl, ⟨xa, xb, xc, rfl, hnd⟩, hp3, hs3⟩; have h3 : GrAt W g r ts cap n w3 A cp acc j2 := GrAt.call (W0 := W) (s := n) (A := A) (cp := cp) (acc := acc) (i := i') (by exact GrAt.same HG.out rfl rfl rfl rfl) hg hp3 hs3; obtain ⟨kb, tb, Ab, nb, cb, rfl, rfl, rfl⟩ := hnd.form; obtain ⟨vs, hv1, hv2, hv3⟩ := h3.items; obtain ⟨d0, d1, df⟩ := h3.facts; have hsz3 := h3.size; have d1a := fun o : Obj => (((Below.refl w3.heap.size w3).alloc (Nat.le_refl _) o).cell (p := ⟨W.heap.size + 1, 1, none⟩) (Nat.lt_of_lt_of_le (Nat.lt_succ_self _) hsz3)).trans d1; have HLO := Lib.hid hsz; have HSZ := Lib.hid (Nat.le_refl wr.heap.size); have HV := Lib.hid hv2; have H3 := Lib.hid h3; have HN := Lib.hid (hnd.keep (Q := fun q => wr.heap.size ≤ q) (Nat.le_refl _) fun q hq _ => ⟨hq, fun _ => rfl⟩); clear h3 hp3 hs3 hv1 hv2 hv3 hnd))
                  all_goals
                    go_wp2
                    go_roundw
                    case rel => exact ⟨f'', j2, cap', some ⟨gq, 0, none⟩, acc ++ [(vn, vt)], by omega, hj2, by simp; omega, H2x.out, H4.out⟩
                    case measure =>
                      rw [HAT.out, atOf_is H4.out.par]
                      omega
              · by_cases hk4 : (tkAt ts i').kind = 4
                · rw [if_neg (by omega)] at hM
                  injection hM with hM
                  have e0 : ((acc.length : Int) == 0) = false := by rw [beq_eq_false_iff_ne]; omega
                  have hb : (((tkAt ts i').kind : Int) == ((4 : Nat) : Int)) = true := by rw [hk4]; rfl
                  rw [hb] at KI4
                  have HI4 := Lib.hid KI4
                  have h2 := HR2.out
                  rw [← hM] at h2
                  injection h2 with h2
                  have H2 := Lib.hid h2
                  clear KI4 KI1 hb hk4 hM h2 hG
                  go_wp2_with fail
                  refine HI4.out.mono ?_
                  rintro e w1 ⟨rfl, m, rfl⟩
                  have h3 := HG.out.drewN m
                  obtain ⟨d0, d1, df⟩ := h3.facts
                  obtain ⟨z0, z1, zf⟩ := h3.rfacts
                  have H3 := Lib.hid h3
                  clear h3
                  go_wp2
                  rw [← H2.out]
                  exact bodyPost_ret (results_cell_row rfl _ _ W.heap.size 25 _ (0, 0) _ rfl (H3.out.done _ _) Try.underlying25 rfl rfl) rfl (gram_end H3.out hg)
                · rw [if_pos (.inr hk4)] at hM
                  have e0 : ((acc.length : Int) == 0) = false := by rw [beq_eq_false_iff_ne]; omega
                  have hb : (((tkAt ts i').kind : Int) == ((4 : Nat) : Int)) = false := by rw [beq_eq_false_iff_ne]; omega
                  rw [hb] at KI4
                  have HI4 := Lib.hid KI4
                  clear KI4 hb
                  by_cases h64 : acc.length = 64
                  · have e64 : ((acc.length : Int) == 64) = true := by rw [beq_iff_eq]; omega
                    by_cases hk1 : (tkAt ts i').kind = 1
                    · rw [if_pos ⟨h64, hk1⟩] at hM
                      have hb : (((tkAt ts i').kind : Int) == ((1 : Nat) : Int)) = true := by rw [hk1]; rfl
                      simp only [hb] at KI1
                      have HI1 := Lib.hid KI1
                      have KT := fun w (hw : PAt w g r ts cap i' 0) => throw_any w g r ts cap i' 0 6 hw hi'
                      have HT := Lib.hid KT
                      injection hM with hM
                      have h2 := HR2.out
                      rw [← hM] at h2
                      injection h2 with h2
                      subst h2
                      clear KI1 hb hk1 hk4 hM h64 h0 KT hG
                      go_wp2_with fail
                      refine HI4.out.mono ?_
                      rintro e w1 ⟨rfl, m, rfl⟩
                      go_wp2_with fail
                      refine (HI1.out _).mono ?_
                      rintro e w1 ⟨rfl, m2, rfl⟩
                      go_wp2_with fail
                      refine (HT.out _ (HG.out.par.same ?_)).mono ?_
                      · rfl
                      rintro e w2 ⟨rfl, b2⟩
                      have hfin := (HG.out.same (W' := wr.drewN (m + m2)) rfl rfl rfl rfl).bad (Lx.Sep.of_below (g := g) b2)
                      clear b2
                      go_wp2
                      exact ⟨rfl, rfl, hfin⟩
                    · rw [if_neg (by omega)] at hM
                      have hb : (((tkAt ts i').kind : Int) == ((1 : Nat) : Int)) = false := by rw [beq_eq_false_iff_ne]; omega
                      simp only [hb] at KI1
                      have HI1 := Lib.hid KI1
                      clear KI1 hb h64 h0 hk4
                      rcases bind_some hM with ⟨l, c, q, h1, hRR1⟩ | ⟨⟨vn, vt⟩, j2, h1, h2⟩
                      · have KX := fun w (hw : PAt w g r ts cap i' 0) => rule_any ts hE hn f'' w g r cap i' _ hw hi' h1
                        have HX := Lib.hid KX
                        have h2 := HR2.out
                        subst hRR1
                        injection h2 with h2
                        subst h2
                        clear KX h1 hM hG
                        go_wp2_with fail
                        refine HI4.out.mono ?_
                        rintro e w1 ⟨rfl, m, rfl⟩
                        go_wp2_with fail
                        refine (HI1.out _).mono ?_
                        rintro e w1 ⟨rfl, m2, rfl⟩
                        go_wp2_with fail
                        refine Code.wp_mono (Q := PanicP g W [{ v := .iface 67 (.agg #[.int .i64 l, .int .i64 c, .int .i64 q]), recovered := false }]) ?himp ?hmain
                        case hmain =>
                          refine wp_region_any (by kernel_rfl) ?_
                          change wpAny _ _ _ _ _ _ _ (World.drew _)
                          refine wpAny_take (i := 0) (v := ?_) rfl (by kernel_rfl) (by kernel_rfl) (by kernel_rfl) (fun _ _ _ h => h) (Or.inl ⟨by rfl, ?_⟩) ?_
                          rotate_left
                          · intro w; go_simp; with_reducible rfl
                          refine wpAny_take (i := 2) (v := ?_) rfl (by kernel_rfl) (by kernel_rfl) (by kernel_rfl) (fun _ _ _ h => h) (Or.inl ⟨by rfl, ?_⟩) ?_
                          rotate_left
                          · intro w; go_simp; with_reducible rfl
                          refine wpAny_ready (rs := [1, 3]) (by kernel_rfl) (by simp) ?_
                          refine AllReady.cons rfl (fun K hK => ?_) ?_
                          · go_simp
                            refine hK _ _ ?_
                            clear hK K
                            refine wpAny_ready (rs := [3]) (by kernel_rfl) (by simp) ?_
                            refine AllReady.cons rfl (fun K hK => ?_) AllReady.nil
                            go_simp
                            refine (HX.out _ (HG.out.par.same ?_)).mono ?_
                            · rfl
                            rintro e w3 ⟨rfl, hs3⟩
                            exact ⟨rfl, rfl, GrAt.bad (W0 := W) (s := n) (A := A) (cp := cp) (acc := acc) (i := i') (by exact GrAt.same HG.out rfl rfl rfl rfl) hs3⟩
                          · refine AllReady.cons rfl (fun K hK => ?_) AllReady.nil
                            go_simp
                            refine (HX.out _ (HG.out.par.same ?_)).mono ?_
                            · rfl
                            rintro e w3 ⟨rfl, hs3⟩
                            exact ⟨rfl, rfl, GrAt.bad (W0 := W) (s := n) (A := A) (cp := cp) (acc := acc) (i := i') (by exact GrAt.same HG.out rfl rfl rfl rfl) hs3⟩
                        case himp =>
                          rintro e a w' ⟨rfl, hd, hfin⟩
                          go_wp2
                          exact ⟨hd, rfl, hfin⟩
                      · exact absurd (rule_kind h1) hk1
                  · rw [if_neg (by omega)] at hM
                    have e64 : ((acc.length : Int) == 64) = false := by rw [beq_eq_false_iff_ne]; omega
                    clear KI1 h0 hk4
                    rcases bind_some hM with ⟨l, c, q, h1, hRR1⟩ | ⟨⟨vn, vt⟩, j2, h1, h2⟩
                    · have KX := fun w (hw : PAt w g r ts cap i' 0) => rule_any ts hE hn f'' w g r cap i' _ hw hi' h1
                      have HX := Lib.hid KX
                      have h2 := HR2.out
                      subst hRR1
                      injection h2 with h2
                      subst h2
                      clear KX h1 hM hG
                      go_wp2_with fail
                      refine HI4.out.mono ?_
                      rintro e w1 ⟨rfl, m, rfl⟩
                      go_wp2_with fail
                      refine Code.wp_mono (Q := PanicP g W [{ v := .iface 67 (.agg #[.int .i64 l, .int .i64 c, .int .i64 q]), recovered := false }]) ?himp ?hmain
                      case hmain =>
                        refine wp_region_any (by kernel_rfl) ?_
                        change wpAny _ _ _ _ _ _ _ (World.drew _)
                        refine wpAny_take (i := 0) (v := ?_) rfl (by kernel_rfl) (by kernel_rfl) (by kernel_rfl) (fun _ _ _ h => h) (Or.inl ⟨by rfl, ?_⟩) ?_
                        rotate_left
                        · intro w; go_simp; with_reducible rfl
                        refine wpAny_take (i := 2) (v := ?_) rfl (by kernel_rfl) (by kernel_rfl) (by kernel_rfl) (fun _ _ _ h => h) (Or.inl ⟨by rfl, ?_⟩) ?_
                        rotate_left
                        · intro w; go_simp; with_reducible rfl
                        refine wpAny_ready (rs := [1, 3]) (by kernel_rfl) (by simp) ?_
                        refine AllReady.cons rfl (fun K hK => ?_) ?_
                        · go_simp
                          refine hK _ _ ?_
                          clear hK K
                          refine wpAny_ready (rs := [3]) (by kernel_rfl) (by simp) ?_
                          refine AllReady.cons rfl (fun K hK => ?_) AllReady.nil
                          go_simp
                          refine (HX.out _ (HG.out.par.same ?_)).mono ?_
                          · rfl
                          rintro e w3 ⟨rfl, hs3⟩
                          exact ⟨rfl, rfl, GrAt.bad (W0 := W) (s := n) (A := A) (cp := cp) (acc := acc) (i := i') (by exact GrAt.same HG.out rfl rfl rfl rfl) hs3⟩
                        · refine AllReady.cons rfl (fun K hK => ?_) AllReady.nil
                          go_simp
                          refine (HX.out _ (HG.out.par.same ?_)).mono ?_
                          · rfl
                          rintro e w3 ⟨rfl, hs3⟩
                          exact ⟨rfl, rfl, GrAt.bad (W0 := W) (s := n) (A := A) (cp := cp) (acc := acc) (i := i') (by exact GrAt.same HG.out rfl rfl rfl rfl) hs3⟩
                      case himp =>
                        rintro e a w' ⟨rfl, hd, hfin⟩
                        go_wp2
                        exact ⟨hd, rfl, hfin⟩
                    · have KX := fun w (hw : PAt w g r ts cap i' 0) => rule_any ts hE hn f'' w g r cap i' _ hw hi' h1
                      have HX := Lib.hid KX
                      have hj2 := rule_inb hE h1
                      have hj3 := rule_adv ts f'' i' _ _ h1
                      have H2x := Lib.hid h2
                      have hown := hG.items.own_lt
                      have HOWN := Lib.hid hown
                      clear KX h1 h2 hM hG hown
                      go_wp2_with fail
                      refine HI4.out.mono ?_
                      rintro e w1 ⟨rfl, m, rfl⟩
                      go_wp2_with fail
                      go_region_law (first | (refine step_append_lies _ rfl (.tmp 33) (.tmp 36) 23 rfl (W.heap.size + 2) 65 i0 _ 4 64 Try.underlying23 hi0 hz0 hz1 hz2 rfl (by decide) (.slice A acc.length cp) acc.length (cells4 vs) (by simp [Act.eval]) (HV.out.alloc _) ⟨w3.heap.size, 0, none⟩ 1 1 [.string (Lx.mk vn), .int .i64 kb, .string tb, .slice Ab nb cb] (by simp [Act.eval]) rfl (Lx.row_new _ [.string (Lx.mk vn), .int .i64 kb, .string tb, .slice Ab nb cb] _ _ rfl) (by simp [Value.oneCell']) (by decide) (by unfold maxLen; omega) (by omega) (by simp; omega) _ rfl ?_; intro gq cap' w4 hown4 hgrow4 hat4 hlt4; have hsn := H3.out.snoc hg HLO.out (fun k hk => Nat.lt_of_lt_of_le (HOWN.out k hk).1 HSZ.out) HN.out (fun vs2 hv2 => by rw [owns_uniq hv2 HV.out]; exact hown4) hgrow4 hat4; obtain ⟨hgv, h4⟩ := hsn; have u1 := cell_of_row _ _ 1 _ _ (0, 0) hgv; have uf := frozen_row hgv; have H4 := Lib.hid h4; clear hgv h4 hown4 hgrow4 hat4 hlt4) | (go_simp; go_at_call 70; refine (HX.out _ (HG.out.par.same ?_)).mono ?_; rfl; rintro e w3 ⟨x, rfl, ⟨xa, xb, xc, rfl, hnd⟩, hp3, hs3⟩; have h3 : GrAt W g r ts cap n w3 A cp acc j2 := GrAt.call (W0 := W) (s := n) (A := A) (cp := cp) (acc := acc) (i := i') (by exact GrAt.same HG.out rfl rfl rfl rfl) hg hp3 hs3; obtain ⟨kb, tb, Ab, nb, cb, rfl, rfl, rfl⟩ := hnd.form; obtain ⟨vs, hv1, hv2, hv3⟩ := h3.items; obtain ⟨d0, d1, df⟩ := h3.facts; have hsz3 := h3.size; have d1a := fun o : Obj => (((Below.refl w3.heap.size w3).alloc (Nat.le_refl _) o).cell (p := ⟨W.heap.size + 1, 1, none⟩) (Nat.lt_of_lt_of_le (Nat.lt_succ_self _) hsz3)).trans d1; have HLO := Lib.hid hsz; have HSZ := Lib.hid (Nat.le_refl wr.heap.size); have HV := Lib.hid hv2; have H3 := Lib.hid h3; have HN := Lib.hid (hnd.keep (Q := fun q => wr.heap.size ≤ q) (Nat.le_refl _) fun q hq _ => ⟨hq, fun _ => rfl⟩); clear h3 hp3 hs3 hv1 hv2 hv3 hnd))
                      all_goals
                        go_wp2
                        go_roundw
                        case rel => exact ⟨f'', j2, cap', some ⟨gq, 0, none⟩, acc ++ [(vn, vt)], by omega, hj2, by simp; omega, H2x.out, H4.out⟩
                        case measure =>
                          rw [HAT.out, atOf_is H4.out.par]
                          omega
end Go.Proofs.Ytakihbjfkpebcaa.Sx
