/-
  The walk of the plain parser's row.
  The plain parser's functions call one another: the knot.
  Rows of the document's rules that grow, beside a block that is turned.
  What a text that is a grammar is made of: it is proper.
-/
import Derived.Test.YtppdemdjlhdfcaaSxQ1
import Derived.Deep.DeepCutAuto
import Derived.Deep.CutBlock
import Derived.Test.YtppdemdjlhdfcaaSxRules
import Derived.Test.YtppdemdjlhdfcaaSxLaw
import Derived.Test.YtppdemdjlhdfcaaSxTop

namespace Go.Proofs.Ytppdemdjlhdfcaa.Sx
open Go.RowKit
open Lx (Tk Toks heap_lt)
set_option maxRecDepth 100000

theorem sg_other {ts : List Tk} {j : Nat} {a b : UInt8} (h : isSg ts j a = true) (hab : a ≠ b) : isSg ts j b = false := by
  unfold isSg at h ⊢
  simp only [Bool.and_eq_true, decide_eq_true_eq] at h
  rw [h.2, show decide ([a] = [b]) = false from decide_eq_false (fun e => hab (by injection e)), Bool.and_false]
theorem atom_tok {ts : List Tk} (hn : ts.length ≤ 4096) {f d i : Nat} {R : Res Tree} (hk : (tkAt ts i).kind = 1 ∨ (tkAt ts i).kind = 2) (h : pAtom ts f d i = some R) : R = .ok (.node (tkAt ts i).kind (tkAt ts i).text []) (i + 1) := by
  cases f with
  | zero => simp [pAtom] at h
  | succ f =>
    rw [pAtom, tak_short hn] at h
    by_cases h1 : (tkAt ts i).kind = 1
    · rw [if_pos h1] at h
      have h3 : some (Res.ok (.node 1 (tkAt ts i).text []) (i + 1)) = some R := h
      injection h3 with h3
      rw [h1, ← h3]
    · have h2 : (tkAt ts i).kind = 2 := by omega
      rw [if_neg h1, if_pos h2] at h
      have h3 : some (Res.ok (.node 2 (tkAt ts i).text []) (i + 1)) = some R := h
      injection h3 with h3
      rw [h2, ← h3]
theorem atom_brk {ts : List Tk} (hn : ts.length ≤ 4096) {f d i : Nat} {R : Res Tree} {c : UInt8} (hc : clos ts i = some c) (h : pAtom ts f d i = some R) :
    ∃ f', f = f' + 1 ∧ ((d = 16 ∧ R = .bad ts i 11) ∨ (d ≠ 16 ∧ ((∃ l k q, pAlt ts f' (d + 1) (i + 1) = some (.no l k q) ∧ R = .no l k q) ∨
      ∃ t k, pAlt ts f' (d + 1) (i + 1) = some (.ok t k) ∧ ((isSg ts k c = true ∧ R = .ok (wrapped c t) (k + 1)) ∨ (isSg ts k c = false ∧ R = .bad ts k 2))))) := by
  obtain ⟨h3, _⟩ := clos_cases hc
  cases f with
  | zero => simp [pAtom] at h
  | succ f =>
    refine ⟨f, rfl, ?_⟩
    rw [pAtom, tak_short hn, if_neg (by omega), if_neg (by omega), hc] at h
    simp only at h
    by_cases hd : d = 16
    · rw [if_pos hd] at h
      injection h with h
      exact .inl ⟨hd, h.symm⟩
    · rw [if_neg hd] at h
      have h4 : ((pAlt ts f (d + 1) (i + 1)).bind fun r => r.bind fun t k => (need ts k c).bind fun _ m => some (.ok (wrapped c t) m)) = some R := h
      refine .inr ⟨hd, ?_⟩
      rcases bind_some h4 with ⟨l, e, q, h1, rfl⟩ | ⟨t, k, h1, h2⟩
      · exact .inl ⟨l, e, q, h1, rfl⟩
      · refine .inr ⟨t, k, h1, ?_⟩
        unfold need at h2
        rw [tak_short hn] at h2
        cases hs : isSg ts k c
        · rw [hs, if_neg (by decide)] at h2
          have h5 : some (Res.bad ts k 2) = some R := h2
          injection h5 with h5
          exact .inr ⟨rfl, h5.symm⟩
        · rw [hs, if_pos rfl] at h2
          have h5 : some (Res.ok (wrapped c t) (k + 1)) = some R := h2
          injection h5 with h5
          exact .inl ⟨rfl, h5.symm⟩
theorem Atm.below {W1 W W' : World} {g r : Nat} {ts : List Tk} {cap d j : Nat} {t : Tree} (h : Atm W1 g r ts cap d t j W) (b : Below W.heap.size W W') : Atm W1 g r ts cap d t j W' := by
  obtain ⟨h1, h2, x, y, z, hx, hnd⟩ := h
  exact ⟨h1.below b, h2.trans ((Lx.Sep.of_below b).mono h2.size), x, y, z, (b.block _ (heap_lt hx)).trans hx, hnd.keep b.size fun q hq hl => ⟨hq, fun _ => b.cell hl⟩⟩

/-- How far row is. -/
def QRowAt (W0 : World) (ts : List Tk) (g r cap d nb f : Nat) (R : Res Tree) (W : World) : Prop :=
  ∃ (f' i cp : Nat) (A : Option Addr) (acc : List Tree), f' ≤ f ∧ i < ts.length ∧ acc.length ≤ i ∧ pItems ts f' d i acc = some R ∧ RwQ W0 g r ts cap d nb W A cp acc i (0, 0, 0)
/-- Behind row's loop. -/
def QRowEnd (W0 : World) (ts : List Tk) (g r cap d nb : Nat) (R : Res Tree) (W : World) : Prop :=
  ∃ (A : Option Addr) (cp : Nat) (acc : List Tree), (∃ i, R = .ok (joined 3 acc) i ∧ RwQ W0 g r ts cap d nb W A cp acc i (0, 0, 0)) ∨ (∃ l c k j d', R = .no l c k ∧ j < ts.length ∧ RwQ W0 g r ts cap d' nb W A cp acc j (l, c, k))

set_option maxHeartbeats 16000000 in
theorem rowq_any (ts : List Tk) (hE : Ended ts) (hKs : Kinds ts) (hn : ts.length ≤ 4096) (f : Nat) (halt : ∀ f', f' + 3 ≤ f → QCtr 19 ts (pAlt ts f')) : QCtr 35 ts (pRow ts (f + 1)) := by
  intro W g r cap i d R hp hi hd hR
  have hg := Lx.heap_lt hp.blk
  rw [pRow] at hR
  have hW1 : RwQ W g r ts cap d (W.heap.size + 1) ((W.alloc (.cells #[.int .i64 0, .string ⟨#[]⟩, .slice none 0 0] 66)).alloc (.cells #[.int .i64 3, .string ⟨#[]⟩, .slice none 0 0] 66)) none 0 [] i (0, 0, 0) := by
    have b0 : Below W.heap.size W (W.alloc (.cells #[.int .i64 0, .string ⟨#[]⟩, .slice none 0 0] 66)) := (Below.refl _ _).alloc (Nat.le_refl _) _
    have b1 : Below W.heap.size W ((W.alloc (.cells #[.int .i64 0, .string ⟨#[]⟩, .slice none 0 0] 66)).alloc (.cells #[.int .i64 3, .string ⟨#[]⟩, .slice none 0 0] 66)) := b0.alloc (by simp) _
    have hz := heap_alloc_new W (.cells #[.int .i64 0, .string ⟨#[]⟩, .slice none 0 0] 66)
    have hnb := heap_alloc_new (W.alloc (.cells #[.int .i64 0, .string ⟨#[]⟩, .slice none 0 0] 66)) (.cells #[.int .i64 3, .string ⟨#[]⟩, .slice none 0 0] 66)
    rw [heap_size_alloc'] at hnb
    exact ⟨hp.below b1, (heap_alloc_old _ _ (by simp)).trans hz, hnb, QItems.nil _ _ _, Lx.Sep.of_below b1, by omega⟩
  have HW1 := Lib.hid hW1
  have HR := Lib.hid hR
  have hi0' := Lib.hid hi
  clear hW1 hp hR
  obtain ⟨i0, hi0, hz0, hz1, hz2⟩ := info_parts qninfo
  go_enter Try.func35, Try.ntmps35
  go_upto_block 0 with fail
  generalize hV : World.alloc (World.alloc W _) _ = V
  rw [hV] at HW1
  clear hV
  generalize hnbe : W.heap.size + 1 = nb at HW1 ⊢
  clear hnbe
  go_cut [10] (fun _ wx => QRowEnd W ts g r cap d nb R wx)
  case first =>
    go_wp2_with fail
    go_loopw [10] (fun _ wr => QRowAt W ts g r cap d nb f R wr) (fun _ wr => ts.length - atOf wr g)
    case atStart => exact ⟨f, i, 0, none, [], Nat.le_refl _, hi, Nat.zero_le _, HR.out, HW1.out⟩
    case round =>
      obtain ⟨f', i', cp, A, acc, hf', hi', hacc, hM, hL⟩ := hrel
      have hms := Lib.hid (show atOf wr g = i' by rw [atOf, hL.par.facts.2.1]; simp)
      cases f' with
      | zero => simp [pItems] at hM
      | succ f'' =>
        rw [pItems] at hM
        have KL := look_any wr g r ts cap i' d (0, 0, 0) hL.par hi' hn
        obtain ⟨tx, htx⟩ : ∃ tx, tx = Lx.mk (tkAt ts i').text := ⟨_, rfl⟩
        rw [← htx] at KL
        have HKL := Lib.hid KL
        have HTX := Lib.hid htx
        clear KL htx
        have HL0 := Lib.hid hL
        have HM := Lib.hid hM
        clear hL hM
        go_wp2_with fail
        refine HKL.out.mono ?_
        rintro e wL ⟨rfl, b1⟩
        have hL1 := HL0.out.call hg (HL0.out.par.below b1) (Lx.Sep.of_below b1)
        have HL1 := Lib.hid hL1
        clear hL1 b1 HL0
        go_upto_if 16 with fail
        go_cut [6, 7] (fun s6 s7 wx => s6 = .string (endB (clos ts i')) ∧ s7 = .int .i64 (kdB (clos ts i')) ∧ wL = wx)
        case first =>
          have htl : ∀ c : UInt8, ((Lx.mk (tkAt ts i').text).toList == [c]) = decide ((tkAt ts i').text = [c]) := fun c => by
            rw [Lib.toList_data, Bool.eq_iff_iff]; simp [Lx.mk]
          have htx := HTX.out
          rw [← htx] at htl
          by_cases h3 : (tkAt ts i').kind = 3
          · have e3 : (((tkAt ts i').kind : Int) == 3) = true := by rw [beq_iff_eq]; omega
            by_cases h40 : (tkAt ts i').text = [40]
            · have q40 : (tx.toList == [40]) = true := by rw [htl, h40]; rfl
              have HC := Lib.hid (show clos ts i' = some 41 by unfold clos isSg; rw [h3, h40]; rfl)
              clear htl htx h3 h40
              go_wp2
              go_meet
              case rel => exact ⟨by rw [HC.out]; rfl, by rw [HC.out]; rfl, rfl⟩
            · have q40 : (tx.toList == [40]) = false := by rw [htl, decide_eq_false h40]
              by_cases h91 : (tkAt ts i').text = [91]
              · have q91 : (tx.toList == [91]) = true := by rw [htl, h91]; rfl
                have HC := Lib.hid (show clos ts i' = some 93 by unfold clos isSg; rw [h3, h91]; rfl)
                clear htl htx h3 h40 h91
                go_wp2
                go_meet
                case rel => exact ⟨by rw [HC.out]; rfl, by rw [HC.out]; rfl, rfl⟩
              · have q91 : (tx.toList == [91]) = false := by rw [htl, decide_eq_false h91]
                by_cases h123 : (tkAt ts i').text = [123]
                · have q123 : (tx.toList == [123]) = true := by rw [htl, h123]; rfl
                  have HC := Lib.hid (show clos ts i' = some 125 by unfold clos isSg; rw [h3, h123]; rfl)
                  clear htl htx h3 h40 h91 h123
                  go_wp2
                  go_meet
                  case rel => exact ⟨by rw [HC.out]; rfl, by rw [HC.out]; rfl, rfl⟩
                · have q123 : (tx.toList == [123]) = false := by rw [htl, decide_eq_false h123]
                  have HC := Lib.hid (show clos ts i' = none by unfold clos isSg; rw [decide_eq_false h40, decide_eq_false h91, decide_eq_false h123]; simp)
                  clear htl htx h3 h40 h91 h123
                  go_wp2
                  go_meet
                  case rel => exact ⟨by rw [HC.out]; rfl, by rw [HC.out]; rfl, rfl⟩
          · have e3 : (((tkAt ts i').kind : Int) == 3) = false := by rw [beq_eq_false_iff_ne]; omega
            have HC := Lib.hid (show clos ts i' = none by unfold clos isSg; rw [decide_eq_false h3]; simp)
            clear htl htx h3
            go_wp2
            go_meet
            case rel => exact ⟨by rw [HC.out]; rfl, by rw [HC.out]; rfl, rfl⟩
        case rest =>
          obtain ⟨rfl, rfl, hwL⟩ := hcut
          subst hwL
          have hgl : g < wL.heap.size := heap_lt HL1.out.par.blk
          have HGL := Lib.hid hgl
          clear hgl
          cases hc : clos ts i' with
          | none =>
            rw [show endB none = ⟨#[]⟩ from rfl, show kdB none = 0 from rfl]
            by_cases hk : (tkAt ts i').kind = 1 ∨ (tkAt ts i').kind = 2
            · have hM := HM.out
              rw [show starts ts i' = true by unfold starts; rcases hk with h | h <;> simp [h], if_pos rfl] at hM
              have hk2 : ¬ (2 : Int) < ((tkAt ts i').kind : Int) := by omega
              rcases bind_some hM with ⟨l, c, q, h1, rfl⟩ | ⟨t, j, h1, h2⟩
              · obtain ⟨f3, _, ⟨l', c', q', h4, _⟩ | ⟨t1, j1, _, h5⟩⟩ := item_split hn h1
                · have := atom_tok hn hk h4; cases this
                · cases h5
              · have hjs := (inb_all ts hE f'').2.2.2.2.1 d i' hi' t j h1
                have hj2 := (adv_all ts f'').2.2.2.2.1 d i' t j h1
                obtain ⟨f3, _, ⟨l', c', q', _, h5⟩ | ⟨t1, j1, h4, h5⟩⟩ := item_split hn h1
                · cases h5
                · injection h5 with h5 h6
                  subst h5 h6
                  have hj1 := (inb_all ts hE f3).2.2.2.2.2 d i' hi' t1 j1 h4
                  have h7 := atom_tok hn hk h4
                  injection h7 with h7 h8
                  have HT := Lib.hid h7
                  have HJ := Lib.hid h8
                  clear h1 h4 hM h7 h8
                  have HJ1 := Lib.hid (hj1 : j1 < ts.length)
                  have HJ2 := Lib.hid (hj2 : i' + 1 ≤ sufI ts j1)
                  have HJS := Lib.hid (hjs : sufI ts j1 < ts.length)
                  have H2b := Lib.hid h2
                  clear hj1 hj2 hjs h2
                  have b5 : Below wL.heap.size wL (wL.alloc (.cells #[.int .i64 (tkAt ts i').kind, .string tx, .slice none 0 0] 66)) := (Below.refl _ _).alloc (Nat.le_refl _) _
                  have HQV := Lib.hid (HL1.out.par.below b5)
                  have HXV := Lib.hid (heap_alloc_new wL (.cells #[.int .i64 (tkAt ts i').kind, .string tx, .slice none 0 0] 66))
                  have HSV := Lib.hid (Lx.Sep.of_below (g := g) b5)
                  clear b5
                  obtain ⟨c0, c1, c2, c3, c4, c5, cf⟩ := HL1.out.par.facts
                  go_upto_if 42 with fail
                  clear c0 c1 c2 c3 c4 c5 cf
                  generalize hV : World.alloc wL _ = V
                  rw [hV] at HQV HXV HSV
                  clear hV

                  go_cut [7] (fun _ wx => Atm wL g r ts cap d t1 j1 wx)
                  case first =>
                    obtain ⟨c0, c1, c2, c3, c4, c5, cf⟩ := HQV.out.facts
                    have hV1 : Atm wL g r ts cap d t1 j1 (V.setCell ⟨g, 1, none⟩ (.int .i64 ((i' : Int) + 1))) := by
                      rw [HT.out, HJ.out]
                      exact ⟨HQV.out.set 1 (.int .i64 ((i' : Int) + 1)) (i' + 1) d (0, 0, 0) (by rw [show ((i' : Int) + 1) = ((i' + 1 : Nat) : Int) by omega]; rfl), HSV.out.setCell (p := ⟨g, 1, none⟩) (.inl rfl) _, _, _, _, (Lx.set_keep (b := g) V 1 _ (show g ≠ wL.heap.size by have := HGL.out; omega)).trans HXV.out, by rw [HTX.out]; exact Nd.leaf _ _ _ _ _ _⟩
                    have HV1 := Lib.hid hV1
                    clear hV1
                    go_wp2
                    go_meet
                    case rel => exact HV1.out
                  case rest =>
                    have HAT := Lib.hid hcut
                    clear hcut
                    cases h42 : isSg ts j1 42
                    · cases h43 : isSg ts j1 43
                      · cases h63 : isSg ts j1 63
                        · have K63 := fun w (hw : QAt w g r ts cap j1 d (0, 0, 0)) => isq_any w g r ts cap j1 d (0, 0, 0) 63 hw HJ1.out hn
                          simp only [sg0, h63] at K63
                          have HK63 := Lib.hid K63
                          clear K63
                          have K42 := fun w (hw : QAt w g r ts cap j1 d (0, 0, 0)) => isq_any w g r ts cap j1 d (0, 0, 0) 42 hw HJ1.out hn
                          simp only [sg0, h42] at K42
                          have HK42 := Lib.hid K42
                          clear K42
                          have K43 := fun w (hw : QAt w g r ts cap j1 d (0, 0, 0)) => isq_any w g r ts cap j1 d (0, 0, 0) 43 hw HJ1.out hn
                          simp only [sg0, h43] at K43
                          have HK43 := Lib.hid K43
                          clear K43
                          have HSK := Lib.hid (show sufK ts j1 = 0 by unfold sufK; rw [if_neg (by rw [h42]; decide), if_neg (by rw [h43]; decide), if_neg (by rw [h63]; decide)])
                          clear h42 h43 h63
                          go_wp2_with fail
                          refine (HK63.out _ HAT.out.par).mono ?_
                          rintro e w2 ⟨rfl, b2⟩
                          have HA2 := Lib.hid (HAT.out.below b2)
                          clear b2
                          go_wp2_with fail
                          refine (HK42.out _ HA2.out.par).mono ?_
                          rintro e w3 ⟨rfl, b3⟩
                          have HA3 := Lib.hid (HA2.out.below b3)
                          clear b3
                          go_wp2_with fail
                          refine (HK43.out _ HA3.out.par).mono ?_
                          rintro e w4 ⟨rfl, b4⟩
                          have HA4 := Lib.hid (HA3.out.below b4)
                          clear b4
                          go_upto_if 102 with fail
                          go_cut [7] (fun _ wx => Atm wL g r ts cap d (sufT ts j1 t1) (sufI ts j1) wx)
                          case first =>
                            go_wp2
                            go_meet
                            case rel => exact (by unfold sufT sufI; rw [HSK.out]; exact HA4.out)
                          case rest =>
                            obtain ⟨hq5, hs5, x5, y5, z5, hx5, hnd5⟩ := hcut
                            obtain ⟨kb, tb, Ab, mb, cb, rfl, rfl, rfl⟩ := hnd5.form
                            have hL5 := HL1.out.call hg hq5 hs5
                            obtain ⟨m0, m1, m2, mf, z0, z1, z2, zf⟩ := hL5.facts
                            have k0 : wc.cell? ⟨wL.heap.size, 0, none⟩ = some (.int .i64 kb) := cell_of_row _ _ 0 _ _ (0, 0) hx5
                            have k1 : wc.cell? ⟨wL.heap.size, 1, none⟩ = some (.string tb) := cell_of_row _ _ 1 _ _ (0, 0) hx5
                            have k2 : wc.cell? ⟨wL.heap.size, 2, none⟩ = some (.slice Ab mb cb) := cell_of_row _ _ 2 _ _ (0, 0) hx5
                            obtain ⟨vs, hv1, hv2, hvx, hv3⟩ := hL5.items
                            have hxl5 := heap_lt hx5
                            have hsL5 := hL5.size
                            have hszL := hs5.size
                            have HV := Lib.hid hv2
                            have HNX := Lib.hid (heap_lt HL1.out.nb_)
                            have HOL := Lib.hid HL1.out.items.own_lt
                            have HL5 := Lib.hid hL5
                            have HN5 := Lib.hid (hnd5.keep (Q := fun q => wL.heap.size ≤ q) (Nat.le_refl _) fun q hq _ => ⟨by omega, fun _ => rfl⟩)
                            have HZL := Lib.hid hszL
                            clear hq5 hs5 hx5 hnd5 hL5 hv1 hv2 hvx hv3 z0 z1 z2 zf m0 m1 hszL
                            go_wp2_with ((at_builtin; refine wpList_append_own_at _ rfl _ _ 64 rfl (W.heap.size + 1) 66 i0 _ 3 48 Try.underlying64 hi0 hz0 hz1 hz2 rfl (by decide) _ _ _ rfl (HV.out.alloc _) ⟨wc.heap.size, 0, none⟩ 1 1 [.int .i64 kb, .string tb, .slice Ab mb cb] rfl rfl (Lx.row_new _ [.int .i64 kb, .string tb, .slice Ab mb cb] _ _ rfl) (by simp [Value.oneCell']) (by unfold maxLen; omega) (by omega) (by simp; omega) ?_))
                            intro v' w6 hown4 hgrow4 _ hat4
                            obtain ⟨gq, cp', rfl, hat5⟩ := own_slice hown4 (by omega) hat4
                            have h6 := HL5.out.snoc hg (lo := wL.heap.size) HNX.out HZL.out (fun k hk => (HOL.out k hk).1) HN5.out (fun vs2 hv2 => by rw [owns_uniq hv2 HV.out]; exact hown4) hgrow4 (by rw [heap_size_alloc']; exact hat5)
                            have hnb4 := (hgrow4.block nb (by have := heap_lt HL5.out.nb_; simp; omega) (fun e => by have := (HL5.out.items.own_lt nb e.symm).2.2; omega)).trans ((heap_alloc_old wc _ (heap_lt HL5.out.nb_)).trans HL5.out.nb_)
                            have u2 : w6.cell? ⟨nb, 2, none⟩ = some (.slice A acc.length cp) := cell_of_row _ _ 2 _ _ (0, 0) hnb4
                            have uf := frozen_qrow hnb4
                            have H6 := Lib.hid h6
                            clear h6 hnb4 hown4 hgrow4 hat4 hat5
                            go_wp2
                            go_roundw
                            case rel => exact ⟨f'', sufI ts j1, cp', some ⟨gq, 0, none⟩, acc ++ [sufT ts j1 t1], by omega, HJS.out, by have := HJ2.out; simp; omega, H2b.out, H6.out⟩
                            case measure =>
                              rw [hms.out, show atOf _ g = sufI ts j1 by rw [atOf, H6.out.par.facts.2.1]; simp]
                              have := HJ2.out
                              have := HJS.out
                              omega
                        · have K63 := fun w (hw : QAt w g r ts cap j1 d (0, 0, 0)) => isq_any w g r ts cap j1 d (0, 0, 0) 63 hw HJ1.out hn
                          simp only [sg0, h63] at K63
                          have HK63 := Lib.hid K63
                          clear K63
                          have K42 := fun w (hw : QAt w g r ts cap j1 d (0, 0, 0)) => isq_any w g r ts cap j1 d (0, 0, 0) 42 hw HJ1.out hn
                          simp only [sg0, h42] at K42
                          have HK42 := Lib.hid K42
                          clear K42
                          have K43 := fun w (hw : QAt w g r ts cap j1 d (0, 0, 0)) => isq_any w g r ts cap j1 d (0, 0, 0) 43 hw HJ1.out hn
                          simp only [sg0, h43] at K43
                          have HK43 := Lib.hid K43
                          clear K43
                          have HSK := Lib.hid (show sufK ts j1 = 5 by unfold sufK; rw [if_neg (by rw [h42]; decide), if_neg (by rw [h43]; decide), if_pos h63])
                          clear h42 h43 h63
                          go_wp2_with fail
                          refine (HK63.out _ HAT.out.par).mono ?_
                          rintro e w2 ⟨rfl, b2⟩
                          have HA2 := Lib.hid (HAT.out.below b2)
                          clear b2
                          go_wp2_with fail
                          refine (HK42.out _ HA2.out.par).mono ?_
                          rintro e w3 ⟨rfl, b3⟩
                          have HA3 := Lib.hid (HA2.out.below b3)
                          clear b3
                          go_wp2_with fail
                          refine (HK43.out _ HA3.out.par).mono ?_
                          rintro e w4 ⟨rfl, b4⟩
                          have HA4 := Lib.hid (HA3.out.below b4)
                          clear b4
                          go_upto_if 102 with fail
                          go_cut [7] (fun _ wx => Atm wL g r ts cap d (sufT ts j1 t1) (sufI ts j1) wx)
                          case first =>
                            obtain ⟨hq4, hs4, x4, y4, z4, hx4, hnd4⟩ := HA4.out
                            obtain ⟨kc, tc, Ac, mc, cc, rfl, rfl, rfl⟩ := hnd4.form
                            obtain ⟨c0, c1, c2, c3, c4, c5, cf⟩ := hq4.facts
                            have k0 : w4.cell? ⟨wL.heap.size, 0, none⟩ = some (.int .i64 kc) := cell_of_row _ _ 0 _ _ (0, 0) hx4
                            have k1 : w4.cell? ⟨wL.heap.size, 1, none⟩ = some (.string tc) := cell_of_row _ _ 1 _ _ (0, 0) hx4
                            have k2 : w4.cell? ⟨wL.heap.size, 2, none⟩ = some (.slice Ac mc cc) := cell_of_row _ _ 2 _ _ (0, 0) hx4
                            have kf := frozen_qrow hx4
                            have hj4 := HJ1.out
                            have hxl4 := heap_lt hx4
                            have hA5 : Atm wL g r ts cap d t1 (j1 + 1) (w4.setCell ⟨g, 1, none⟩ (.int .i64 ((j1 : Int) + 1))) ∧ (w4.setCell ⟨g, 1, none⟩ (.int .i64 ((j1 : Int) + 1))).heap[wL.heap.size]? = some (.cells #[.int .i64 kc, .string tc, .slice Ac mc cc] 66 (0, 0)) ∧ Nd (fun q => wL.heap.size + 1 ≤ q) (w4.setCell ⟨g, 1, none⟩ (.int .i64 ((j1 : Int) + 1))) t1 (.int .i64 kc) (.string tc) (.slice Ac mc cc) := by
                              have hx5 := (Lx.set_keep (b := g) w4 1 (.int .i64 ((j1 : Int) + 1)) (show g ≠ wL.heap.size by have := HGL.out; omega)).trans hx4
                              have hn5 := hnd4.keep (W' := w4.setCell ⟨g, 1, none⟩ (.int .i64 ((j1 : Int) + 1))) (Q := fun q => wL.heap.size + 1 ≤ q) (by simp [World.setCell]) fun q hq _ => ⟨hq, fun k => World.cell?_setCell_other w4 _ _ _ (fun e => by have := HGL.out; injection e with e; omega)⟩
                              exact ⟨⟨hq4.set 1 (.int .i64 ((j1 : Int) + 1)) (j1 + 1) d (0, 0, 0) (by rw [show ((j1 : Int) + 1) = ((j1 + 1 : Nat) : Int) by omega]; rfl), hs4.setCell (p := ⟨g, 1, none⟩) (.inl rfl) _, _, _, _, hx5, hn5⟩, hx5, hn5⟩
                            have hW := hA5.1.wrap hA5.2.1 hA5.2.2 HGL.out 5
                            rw [show (w4.setCell ⟨g, 1, none⟩ (.int .i64 ((j1 : Int) + 1))).heap.size = w4.heap.size by simp [World.setCell]] at hW
                            have HW := Lib.hid hW
                            clear hW
                            have hx5 := hA5.2.1
                            have l0 := cell_of_row _ _ 0 _ _ (0, 0) hx5
                            have l1 := cell_of_row _ _ 1 _ _ (0, 0) hx5
                            have l2 := cell_of_row _ _ 2 _ _ (0, 0) hx5
                            have lf := frozen_qrow hx5
                            have hx6 := fun o : Obj => (heap_alloc_old (w4.setCell ⟨g, 1, none⟩ (.int .i64 ((j1 : Int) + 1))) o (heap_lt hx5)).trans hx5
                            have n0 := fun o : Obj => cell_of_row _ _ 0 _ _ (0, 0) (hx6 o)
                            have n1 := fun o : Obj => cell_of_row _ _ 1 _ _ (0, 0) (hx6 o)
                            have n2 := fun o : Obj => cell_of_row _ _ 2 _ _ (0, 0) (hx6 o)
                            have nf := fun o : Obj => frozen_qrow (hx6 o)
                            clear hA5 hq4 hs4 hx4 hnd4 hx5 hx6
                            go_wp2
                            go_meet
                            case rel => exact (by rw [show sufT ts j1 t1 = around 5 t1 by unfold sufT; rw [HSK.out]; rfl, show sufI ts j1 = j1 + 1 by unfold sufI; rw [HSK.out]; rfl]; exact HW.out)
                          case rest =>
                            obtain ⟨hq5, hs5, x5, y5, z5, hx5, hnd5⟩ := hcut
                            obtain ⟨kb, tb, Ab, mb, cb, rfl, rfl, rfl⟩ := hnd5.form
                            have hL5 := HL1.out.call hg hq5 hs5
                            obtain ⟨m0, m1, m2, mf, z0, z1, z2, zf⟩ := hL5.facts
                            have k0 : wc.cell? ⟨wL.heap.size, 0, none⟩ = some (.int .i64 kb) := cell_of_row _ _ 0 _ _ (0, 0) hx5
                            have k1 : wc.cell? ⟨wL.heap.size, 1, none⟩ = some (.string tb) := cell_of_row _ _ 1 _ _ (0, 0) hx5
                            have k2 : wc.cell? ⟨wL.heap.size, 2, none⟩ = some (.slice Ab mb cb) := cell_of_row _ _ 2 _ _ (0, 0) hx5
                            obtain ⟨vs, hv1, hv2, hvx, hv3⟩ := hL5.items
                            have hxl5 := heap_lt hx5
                            have hsL5 := hL5.size
                            have hszL := hs5.size
                            have HV := Lib.hid hv2
                            have HNX := Lib.hid (heap_lt HL1.out.nb_)
                            have HOL := Lib.hid HL1.out.items.own_lt
                            have HL5 := Lib.hid hL5
                            have HN5 := Lib.hid (hnd5.keep (Q := fun q => wL.heap.size ≤ q) (Nat.le_refl _) fun q hq _ => ⟨by omega, fun _ => rfl⟩)
                            have HZL := Lib.hid hszL
                            clear hq5 hs5 hx5 hnd5 hL5 hv1 hv2 hvx hv3 z0 z1 z2 zf m0 m1 hszL
                            go_wp2_with ((at_builtin; refine wpList_append_own_at _ rfl _ _ 64 rfl (W.heap.size + 1) 66 i0 _ 3 48 Try.underlying64 hi0 hz0 hz1 hz2 rfl (by decide) _ _ _ rfl (HV.out.alloc _) ⟨wc.heap.size, 0, none⟩ 1 1 [.int .i64 kb, .string tb, .slice Ab mb cb] rfl rfl (Lx.row_new _ [.int .i64 kb, .string tb, .slice Ab mb cb] _ _ rfl) (by simp [Value.oneCell']) (by unfold maxLen; omega) (by omega) (by simp; omega) ?_))
                            intro v' w6 hown4 hgrow4 _ hat4
                            obtain ⟨gq, cp', rfl, hat5⟩ := own_slice hown4 (by omega) hat4
                            have h6 := HL5.out.snoc hg (lo := wL.heap.size) HNX.out HZL.out (fun k hk => (HOL.out k hk).1) HN5.out (fun vs2 hv2 => by rw [owns_uniq hv2 HV.out]; exact hown4) hgrow4 (by rw [heap_size_alloc']; exact hat5)
                            have hnb4 := (hgrow4.block nb (by have := heap_lt HL5.out.nb_; simp; omega) (fun e => by have := (HL5.out.items.own_lt nb e.symm).2.2; omega)).trans ((heap_alloc_old wc _ (heap_lt HL5.out.nb_)).trans HL5.out.nb_)
                            have u2 : w6.cell? ⟨nb, 2, none⟩ = some (.slice A acc.length cp) := cell_of_row _ _ 2 _ _ (0, 0) hnb4
                            have uf := frozen_qrow hnb4
                            have H6 := Lib.hid h6
                            clear h6 hnb4 hown4 hgrow4 hat4 hat5
                            go_wp2
                            go_roundw
                            case rel => exact ⟨f'', sufI ts j1, cp', some ⟨gq, 0, none⟩, acc ++ [sufT ts j1 t1], by omega, HJS.out, by have := HJ2.out; simp; omega, H2b.out, H6.out⟩
                            case measure =>
                              rw [hms.out, show atOf _ g = sufI ts j1 by rw [atOf, H6.out.par.facts.2.1]; simp]
                              have := HJ2.out
                              have := HJS.out
                              omega
                      · have h63 := sg_other (b := 63) h43 (by decide)
                        have K63 := fun w (hw : QAt w g r ts cap j1 d (0, 0, 0)) => isq_any w g r ts cap j1 d (0, 0, 0) 63 hw HJ1.out hn
                        simp only [sg0, h63] at K63
                        have HK63 := Lib.hid K63
                        clear K63
                        have K42 := fun w (hw : QAt w g r ts cap j1 d (0, 0, 0)) => isq_any w g r ts cap j1 d (0, 0, 0) 42 hw HJ1.out hn
                        simp only [sg0, h42] at K42
                        have HK42 := Lib.hid K42
                        clear K42
                        have K43 := fun w (hw : QAt w g r ts cap j1 d (0, 0, 0)) => isq_any w g r ts cap j1 d (0, 0, 0) 43 hw HJ1.out hn
                        simp only [sg0, h43] at K43
                        have HK43 := Lib.hid K43
                        clear K43
                        have HSK := Lib.hid (show sufK ts j1 = 7 by unfold sufK; rw [if_neg (by rw [h42]; decide), if_pos h43])
                        clear h42 h43 h63
                        go_wp2_with fail
                        refine (HK63.out _ HAT.out.par).mono ?_
                        rintro e w2 ⟨rfl, b2⟩
                        have HA2 := Lib.hid (HAT.out.below b2)
                        clear b2
                        go_wp2_with fail
                        refine (HK42.out _ HA2.out.par).mono ?_
                        rintro e w3 ⟨rfl, b3⟩
                        have HA3 := Lib.hid (HA2.out.below b3)
                        clear b3
                        go_wp2_with fail
                        refine (HK43.out _ HA3.out.par).mono ?_
                        rintro e w4 ⟨rfl, b4⟩
                        have HA4 := Lib.hid (HA3.out.below b4)
                        clear b4
                        go_upto_if 102 with fail
                        go_cut [7] (fun _ wx => Atm wL g r ts cap d (sufT ts j1 t1) (sufI ts j1) wx)
                        case first =>
                          obtain ⟨hq4, hs4, x4, y4, z4, hx4, hnd4⟩ := HA4.out
                          obtain ⟨kc, tc, Ac, mc, cc, rfl, rfl, rfl⟩ := hnd4.form
                          obtain ⟨c0, c1, c2, c3, c4, c5, cf⟩ := hq4.facts
                          have k0 : w4.cell? ⟨wL.heap.size, 0, none⟩ = some (.int .i64 kc) := cell_of_row _ _ 0 _ _ (0, 0) hx4
                          have k1 : w4.cell? ⟨wL.heap.size, 1, none⟩ = some (.string tc) := cell_of_row _ _ 1 _ _ (0, 0) hx4
                          have k2 : w4.cell? ⟨wL.heap.size, 2, none⟩ = some (.slice Ac mc cc) := cell_of_row _ _ 2 _ _ (0, 0) hx4
                          have kf := frozen_qrow hx4
                          have hj4 := HJ1.out
                          have hxl4 := heap_lt hx4
                          have hA5 : Atm wL g r ts cap d t1 (j1 + 1) (w4.setCell ⟨g, 1, none⟩ (.int .i64 ((j1 : Int) + 1))) ∧ (w4.setCell ⟨g, 1, none⟩ (.int .i64 ((j1 : Int) + 1))).heap[wL.heap.size]? = some (.cells #[.int .i64 kc, .string tc, .slice Ac mc cc] 66 (0, 0)) ∧ Nd (fun q => wL.heap.size + 1 ≤ q) (w4.setCell ⟨g, 1, none⟩ (.int .i64 ((j1 : Int) + 1))) t1 (.int .i64 kc) (.string tc) (.slice Ac mc cc) := by
                            have hx5 := (Lx.set_keep (b := g) w4 1 (.int .i64 ((j1 : Int) + 1)) (show g ≠ wL.heap.size by have := HGL.out; omega)).trans hx4
                            have hn5 := hnd4.keep (W' := w4.setCell ⟨g, 1, none⟩ (.int .i64 ((j1 : Int) + 1))) (Q := fun q => wL.heap.size + 1 ≤ q) (by simp [World.setCell]) fun q hq _ => ⟨hq, fun k => World.cell?_setCell_other w4 _ _ _ (fun e => by have := HGL.out; injection e with e; omega)⟩
                            exact ⟨⟨hq4.set 1 (.int .i64 ((j1 : Int) + 1)) (j1 + 1) d (0, 0, 0) (by rw [show ((j1 : Int) + 1) = ((j1 + 1 : Nat) : Int) by omega]; rfl), hs4.setCell (p := ⟨g, 1, none⟩) (.inl rfl) _, _, _, _, hx5, hn5⟩, hx5, hn5⟩
                          have hW := hA5.1.wrap hA5.2.1 hA5.2.2 HGL.out 7
                          rw [show (w4.setCell ⟨g, 1, none⟩ (.int .i64 ((j1 : Int) + 1))).heap.size = w4.heap.size by simp [World.setCell]] at hW
                          have HW := Lib.hid hW
                          clear hW
                          have hx5 := hA5.2.1
                          have l0 := cell_of_row _ _ 0 _ _ (0, 0) hx5
                          have l1 := cell_of_row _ _ 1 _ _ (0, 0) hx5
                          have l2 := cell_of_row _ _ 2 _ _ (0, 0) hx5
                          have lf := frozen_qrow hx5
                          have hx6 := fun o : Obj => (heap_alloc_old (w4.setCell ⟨g, 1, none⟩ (.int .i64 ((j1 : Int) + 1))) o (heap_lt hx5)).trans hx5
                          have n0 := fun o : Obj => cell_of_row _ _ 0 _ _ (0, 0) (hx6 o)
                          have n1 := fun o : Obj => cell_of_row _ _ 1 _ _ (0, 0) (hx6 o)
                          have n2 := fun o : Obj => cell_of_row _ _ 2 _ _ (0, 0) (hx6 o)
                          have nf := fun o : Obj => frozen_qrow (hx6 o)
                          clear hA5 hq4 hs4 hx4 hnd4 hx5 hx6
                          go_wp2
                          go_meet
                          case rel => exact (by rw [show sufT ts j1 t1 = around 7 t1 by unfold sufT; rw [HSK.out]; rfl, show sufI ts j1 = j1 + 1 by unfold sufI; rw [HSK.out]; rfl]; exact HW.out)
                        case rest =>
                          obtain ⟨hq5, hs5, x5, y5, z5, hx5, hnd5⟩ := hcut
                          obtain ⟨kb, tb, Ab, mb, cb, rfl, rfl, rfl⟩ := hnd5.form
                          have hL5 := HL1.out.call hg hq5 hs5
                          obtain ⟨m0, m1, m2, mf, z0, z1, z2, zf⟩ := hL5.facts
                          have k0 : wc.cell? ⟨wL.heap.size, 0, none⟩ = some (.int .i64 kb) := cell_of_row _ _ 0 _ _ (0, 0) hx5
                          have k1 : wc.cell? ⟨wL.heap.size, 1, none⟩ = some (.string tb) := cell_of_row _ _ 1 _ _ (0, 0) hx5
                          have k2 : wc.cell? ⟨wL.heap.size, 2, none⟩ = some (.slice Ab mb cb) := cell_of_row _ _ 2 _ _ (0, 0) hx5
                          obtain ⟨vs, hv1, hv2, hvx, hv3⟩ := hL5.items
                          have hxl5 := heap_lt hx5
                          have hsL5 := hL5.size
                          have hszL := hs5.size
                          have HV := Lib.hid hv2
                          have HNX := Lib.hid (heap_lt HL1.out.nb_)
                          have HOL := Lib.hid HL1.out.items.own_lt
                          have HL5 := Lib.hid hL5
                          have HN5 := Lib.hid (hnd5.keep (Q := fun q => wL.heap.size ≤ q) (Nat.le_refl _) fun q hq _ => ⟨by omega, fun _ => rfl⟩)
                          have HZL := Lib.hid hszL
                          clear hq5 hs5 hx5 hnd5 hL5 hv1 hv2 hvx hv3 z0 z1 z2 zf m0 m1 hszL
                          go_wp2_with ((at_builtin; refine wpList_append_own_at _ rfl _ _ 64 rfl (W.heap.size + 1) 66 i0 _ 3 48 Try.underlying64 hi0 hz0 hz1 hz2 rfl (by decide) _ _ _ rfl (HV.out.alloc _) ⟨wc.heap.size, 0, none⟩ 1 1 [.int .i64 kb, .string tb, .slice Ab mb cb] rfl rfl (Lx.row_new _ [.int .i64 kb, .string tb, .slice Ab mb cb] _ _ rfl) (by simp [Value.oneCell']) (by unfold maxLen; omega) (by omega) (by simp; omega) ?_))
                          intro v' w6 hown4 hgrow4 _ hat4
                          obtain ⟨gq, cp', rfl, hat5⟩ := own_slice hown4 (by omega) hat4
                          have h6 := HL5.out.snoc hg (lo := wL.heap.size) HNX.out HZL.out (fun k hk => (HOL.out k hk).1) HN5.out (fun vs2 hv2 => by rw [owns_uniq hv2 HV.out]; exact hown4) hgrow4 (by rw [heap_size_alloc']; exact hat5)
                          have hnb4 := (hgrow4.block nb (by have := heap_lt HL5.out.nb_; simp; omega) (fun e => by have := (HL5.out.items.own_lt nb e.symm).2.2; omega)).trans ((heap_alloc_old wc _ (heap_lt HL5.out.nb_)).trans HL5.out.nb_)
                          have u2 : w6.cell? ⟨nb, 2, none⟩ = some (.slice A acc.length cp) := cell_of_row _ _ 2 _ _ (0, 0) hnb4
                          have uf := frozen_qrow hnb4
                          have H6 := Lib.hid h6
                          clear h6 hnb4 hown4 hgrow4 hat4 hat5
                          go_wp2
                          go_roundw
                          case rel => exact ⟨f'', sufI ts j1, cp', some ⟨gq, 0, none⟩, acc ++ [sufT ts j1 t1], by omega, HJS.out, by have := HJ2.out; simp; omega, H2b.out, H6.out⟩
                          case measure =>
                            rw [hms.out, show atOf _ g = sufI ts j1 by rw [atOf, H6.out.par.facts.2.1]; simp]
                            have := HJ2.out
                            have := HJS.out
                            omega
                    · have h43 := sg_other (b := 43) h42 (by decide)
                      have h63 := sg_other (b := 63) h42 (by decide)
                      have K63 := fun w (hw : QAt w g r ts cap j1 d (0, 0, 0)) => isq_any w g r ts cap j1 d (0, 0, 0) 63 hw HJ1.out hn
                      simp only [sg0, h63] at K63
                      have HK63 := Lib.hid K63
                      clear K63
                      have K42 := fun w (hw : QAt w g r ts cap j1 d (0, 0, 0)) => isq_any w g r ts cap j1 d (0, 0, 0) 42 hw HJ1.out hn
                      simp only [sg0, h42] at K42
                      have HK42 := Lib.hid K42
                      clear K42
                      have K43 := fun w (hw : QAt w g r ts cap j1 d (0, 0, 0)) => isq_any w g r ts cap j1 d (0, 0, 0) 43 hw HJ1.out hn
                      simp only [sg0, h43] at K43
                      have HK43 := Lib.hid K43
                      clear K43
                      have HSK := Lib.hid (show sufK ts j1 = 6 by unfold sufK; rw [if_pos h42])
                      clear h42 h43 h63
                      go_wp2_with fail
                      refine (HK63.out _ HAT.out.par).mono ?_
                      rintro e w2 ⟨rfl, b2⟩
                      have HA2 := Lib.hid (HAT.out.below b2)
                      clear b2
                      go_wp2_with fail
                      refine (HK42.out _ HA2.out.par).mono ?_
                      rintro e w3 ⟨rfl, b3⟩
                      have HA3 := Lib.hid (HA2.out.below b3)
                      clear b3
                      go_wp2_with fail
                      refine (HK43.out _ HA3.out.par).mono ?_
                      rintro e w4 ⟨rfl, b4⟩
                      have HA4 := Lib.hid (HA3.out.below b4)
                      clear b4
                      go_upto_if 102 with fail
                      go_cut [7] (fun _ wx => Atm wL g r ts cap d (sufT ts j1 t1) (sufI ts j1) wx)
                      case first =>
                        obtain ⟨hq4, hs4, x4, y4, z4, hx4, hnd4⟩ := HA4.out
                        obtain ⟨kc, tc, Ac, mc, cc, rfl, rfl, rfl⟩ := hnd4.form
                        obtain ⟨c0, c1, c2, c3, c4, c5, cf⟩ := hq4.facts
                        have k0 : w4.cell? ⟨wL.heap.size, 0, none⟩ = some (.int .i64 kc) := cell_of_row _ _ 0 _ _ (0, 0) hx4
                        have k1 : w4.cell? ⟨wL.heap.size, 1, none⟩ = some (.string tc) := cell_of_row _ _ 1 _ _ (0, 0) hx4
                        have k2 : w4.cell? ⟨wL.heap.size, 2, none⟩ = some (.slice Ac mc cc) := cell_of_row _ _ 2 _ _ (0, 0) hx4
                        have kf := frozen_qrow hx4
                        have hj4 := HJ1.out
                        have hxl4 := heap_lt hx4
                        have hA5 : Atm wL g r ts cap d t1 (j1 + 1) (w4.setCell ⟨g, 1, none⟩ (.int .i64 ((j1 : Int) + 1))) ∧ (w4.setCell ⟨g, 1, none⟩ (.int .i64 ((j1 : Int) + 1))).heap[wL.heap.size]? = some (.cells #[.int .i64 kc, .string tc, .slice Ac mc cc] 66 (0, 0)) ∧ Nd (fun q => wL.heap.size + 1 ≤ q) (w4.setCell ⟨g, 1, none⟩ (.int .i64 ((j1 : Int) + 1))) t1 (.int .i64 kc) (.string tc) (.slice Ac mc cc) := by
                          have hx5 := (Lx.set_keep (b := g) w4 1 (.int .i64 ((j1 : Int) + 1)) (show g ≠ wL.heap.size by have := HGL.out; omega)).trans hx4
                          have hn5 := hnd4.keep (W' := w4.setCell ⟨g, 1, none⟩ (.int .i64 ((j1 : Int) + 1))) (Q := fun q => wL.heap.size + 1 ≤ q) (by simp [World.setCell]) fun q hq _ => ⟨hq, fun k => World.cell?_setCell_other w4 _ _ _ (fun e => by have := HGL.out; injection e with e; omega)⟩
                          exact ⟨⟨hq4.set 1 (.int .i64 ((j1 : Int) + 1)) (j1 + 1) d (0, 0, 0) (by rw [show ((j1 : Int) + 1) = ((j1 + 1 : Nat) : Int) by omega]; rfl), hs4.setCell (p := ⟨g, 1, none⟩) (.inl rfl) _, _, _, _, hx5, hn5⟩, hx5, hn5⟩
                        have hW := hA5.1.wrap hA5.2.1 hA5.2.2 HGL.out 6
                        rw [show (w4.setCell ⟨g, 1, none⟩ (.int .i64 ((j1 : Int) + 1))).heap.size = w4.heap.size by simp [World.setCell]] at hW
                        have HW := Lib.hid hW
                        clear hW
                        have hx5 := hA5.2.1
                        have l0 := cell_of_row _ _ 0 _ _ (0, 0) hx5
                        have l1 := cell_of_row _ _ 1 _ _ (0, 0) hx5
                        have l2 := cell_of_row _ _ 2 _ _ (0, 0) hx5
                        have lf := frozen_qrow hx5
                        have hx6 := fun o : Obj => (heap_alloc_old (w4.setCell ⟨g, 1, none⟩ (.int .i64 ((j1 : Int) + 1))) o (heap_lt hx5)).trans hx5
                        have n0 := fun o : Obj => cell_of_row _ _ 0 _ _ (0, 0) (hx6 o)
                        have n1 := fun o : Obj => cell_of_row _ _ 1 _ _ (0, 0) (hx6 o)
                        have n2 := fun o : Obj => cell_of_row _ _ 2 _ _ (0, 0) (hx6 o)
                        have nf := fun o : Obj => frozen_qrow (hx6 o)
                        clear hA5 hq4 hs4 hx4 hnd4 hx5 hx6
                        go_wp2
                        go_meet
                        case rel => exact (by rw [show sufT ts j1 t1 = around 6 t1 by unfold sufT; rw [HSK.out]; rfl, show sufI ts j1 = j1 + 1 by unfold sufI; rw [HSK.out]; rfl]; exact HW.out)
                      case rest =>
                        obtain ⟨hq5, hs5, x5, y5, z5, hx5, hnd5⟩ := hcut
                        obtain ⟨kb, tb, Ab, mb, cb, rfl, rfl, rfl⟩ := hnd5.form
                        have hL5 := HL1.out.call hg hq5 hs5
                        obtain ⟨m0, m1, m2, mf, z0, z1, z2, zf⟩ := hL5.facts
                        have k0 : wc.cell? ⟨wL.heap.size, 0, none⟩ = some (.int .i64 kb) := cell_of_row _ _ 0 _ _ (0, 0) hx5
                        have k1 : wc.cell? ⟨wL.heap.size, 1, none⟩ = some (.string tb) := cell_of_row _ _ 1 _ _ (0, 0) hx5
                        have k2 : wc.cell? ⟨wL.heap.size, 2, none⟩ = some (.slice Ab mb cb) := cell_of_row _ _ 2 _ _ (0, 0) hx5
                        obtain ⟨vs, hv1, hv2, hvx, hv3⟩ := hL5.items
                        have hxl5 := heap_lt hx5
                        have hsL5 := hL5.size
                        have hszL := hs5.size
                        have HV := Lib.hid hv2
                        have HNX := Lib.hid (heap_lt HL1.out.nb_)
                        have HOL := Lib.hid HL1.out.items.own_lt
                        have HL5 := Lib.hid hL5
                        have HN5 := Lib.hid (hnd5.keep (Q := fun q => wL.heap.size ≤ q) (Nat.le_refl _) fun q hq _ => ⟨by omega, fun _ => rfl⟩)
                        have HZL := Lib.hid hszL
                        clear hq5 hs5 hx5 hnd5 hL5 hv1 hv2 hvx hv3 z0 z1 z2 zf m0 m1 hszL
                        go_wp2_with ((at_builtin; refine wpList_append_own_at _ rfl _ _ 64 rfl (W.heap.size + 1) 66 i0 _ 3 48 Try.underlying64 hi0 hz0 hz1 hz2 rfl (by decide) _ _ _ rfl (HV.out.alloc _) ⟨wc.heap.size, 0, none⟩ 1 1 [.int .i64 kb, .string tb, .slice Ab mb cb] rfl rfl (Lx.row_new _ [.int .i64 kb, .string tb, .slice Ab mb cb] _ _ rfl) (by simp [Value.oneCell']) (by unfold maxLen; omega) (by omega) (by simp; omega) ?_))
                        intro v' w6 hown4 hgrow4 _ hat4
                        obtain ⟨gq, cp', rfl, hat5⟩ := own_slice hown4 (by omega) hat4
                        have h6 := HL5.out.snoc hg (lo := wL.heap.size) HNX.out HZL.out (fun k hk => (HOL.out k hk).1) HN5.out (fun vs2 hv2 => by rw [owns_uniq hv2 HV.out]; exact hown4) hgrow4 (by rw [heap_size_alloc']; exact hat5)
                        have hnb4 := (hgrow4.block nb (by have := heap_lt HL5.out.nb_; simp; omega) (fun e => by have := (HL5.out.items.own_lt nb e.symm).2.2; omega)).trans ((heap_alloc_old wc _ (heap_lt HL5.out.nb_)).trans HL5.out.nb_)
                        have u2 : w6.cell? ⟨nb, 2, none⟩ = some (.slice A acc.length cp) := cell_of_row _ _ 2 _ _ (0, 0) hnb4
                        have uf := frozen_qrow hnb4
                        have H6 := Lib.hid h6
                        clear h6 hnb4 hown4 hgrow4 hat4 hat5
                        go_wp2
                        go_roundw
                        case rel => exact ⟨f'', sufI ts j1, cp', some ⟨gq, 0, none⟩, acc ++ [sufT ts j1 t1], by omega, HJS.out, by have := HJ2.out; simp; omega, H2b.out, H6.out⟩
                        case measure =>
                          rw [hms.out, show atOf _ g = sufI ts j1 by rw [atOf, H6.out.par.facts.2.1]; simp]
                          have := HJ2.out
                          have := HJS.out
                          omega
            · have hM := HM.out
              have hs : starts ts i' = false := by unfold starts; rw [hc]; simp; omega
              rw [hs, if_neg (by decide)] at hM
              injection hM with hM
              subst hM
              have hk3 : (2 : Int) < ((tkAt ts i').kind : Int) := by have := hKs i'; omega
              obtain ⟨c0, c1, c2, c3, c4, c5, cf⟩ := HL1.out.par.facts
              clear hs hc hk
              go_wp2
              go_meet
              case rel => exact ⟨A, cp, acc, .inl ⟨i', rfl, HL1.out⟩⟩
          | some c =>
            have hM := HM.out
            rw [show starts ts i' = true by unfold starts; rw [hc]; simp, if_pos rfl] at hM
            obtain ⟨hk3, hcc⟩ := clos_cases hc
            have hk2 : (2 : Int) < ((tkAt ts i').kind : Int) := by omega
            have HK3 := Lib.hid hk3
            have hk4 : (tkAt ts i').kind ≠ 4 := by omega
            rw [show endB (some c) = ⟨#[c]⟩ from rfl]
            rcases bind_some hM with ⟨l, c2, q, h1, rfl⟩ | ⟨t, j, h1, h2⟩
            · obtain ⟨f3, hf3, ⟨l', c', q', h4, h5⟩ | ⟨t1, j1, _, h5⟩⟩ := item_split hn h1
              · injection h5 with e1 e2 e3
                subst e1 e2 e3
                obtain ⟨f4, hf4, ⟨hd16, h6⟩ | ⟨hd16, ⟨l2, k2, q2, h6, h7⟩ | ⟨t2, k2, h6, ⟨hs, h7⟩ | ⟨hs, h7⟩⟩⟩⟩ := atom_brk hn hc h4
                · clear h1 h4 hM hc hk3 hf3 hf4 hcc
                  have b5 : Below wL.heap.size wL (wL.alloc (.cells #[.int .i64 (tkAt ts i').kind, .string tx, .slice none 0 0] 66)) := (Below.refl _ _).alloc (Nat.le_refl _) _
                  have HQV := Lib.hid (HL1.out.par.below b5)
                  have HXV := Lib.hid (heap_alloc_new wL (.cells #[.int .i64 (tkAt ts i').kind, .string tx, .slice none 0 0] 66))
                  have HSV := Lib.hid (Lx.Sep.of_below (g := g) b5)
                  clear b5
                  obtain ⟨c0, c1, c2, c3, c4, c5, cf⟩ := HL1.out.par.facts
                  go_upto_if 42 with fail
                  clear c0 c1 c2 c3 c4 c5 cf
                  generalize hV : World.alloc wL _ = V
                  rw [hV] at HQV HXV HSV
                  clear hV
                  have e16 : ((d : Int) == 16) = true := by rw [beq_iff_eq]; omega
                  have KB := badq_any V g r ts cap i' d (0, 0, 0) 11 HQV.out hi'
                  rw [show badQ (0, 0, 0) ts i' 11 = ((tkAt ts i').line, (tkAt ts i').col, 11) by unfold badQ; rw [if_pos rfl]] at KB
                  have HKB := Lib.hid KB
                  have HR6 := Lib.hid h6
                  obtain ⟨c0, c1, c2, c3, c4, c5, cf⟩ := HQV.out.facts
                  clear c0 c1 c2 c3 c4 KB h6
                  go_wp2_with fail
                  refine HKB.out.mono ?_
                  rintro e w3 ⟨rfl, hq3, hs3⟩
                  have HL3 := Lib.hid (HL1.out.call hg hq3 (HSV.out.trans (hs3.mono HSV.out.size)))
                  clear hq3 hs3
                  go_wp2
                  go_meet
                  case rel => exact ⟨A, cp, acc, .inr ⟨_, _, _, i', d, HR6.out, hi', HL3.out⟩⟩
                · have hff : f4 + 3 ≤ f := by omega
                  clear h1 h4 hM hc hk3 hf3 hf4 hcc
                  have b5 : Below wL.heap.size wL (wL.alloc (.cells #[.int .i64 (tkAt ts i').kind, .string tx, .slice none 0 0] 66)) := (Below.refl _ _).alloc (Nat.le_refl _) _
                  have HQV := Lib.hid (HL1.out.par.below b5)
                  have HXV := Lib.hid (heap_alloc_new wL (.cells #[.int .i64 (tkAt ts i').kind, .string tx, .slice none 0 0] 66))
                  have HSV := Lib.hid (Lx.Sep.of_below (g := g) b5)
                  clear b5
                  obtain ⟨c0, c1, c2, c3, c4, c5, cf⟩ := HL1.out.par.facts
                  go_upto_if 42 with fail
                  clear c0 c1 c2 c3 c4 c5 cf
                  generalize hV : World.alloc wL _ = V
                  rw [hV] at HQV HXV HSV
                  clear hV
                  have hq0 := (cod_all ts f4).1 (d + 1) (i' + 1) l2 k2 q2 h6
                  have eq0 : ((q2 : Int) != 0) = true := by rw [bne_iff_ne]; omega
                  have HR7 := Lib.hid h7
                  have HQ0 := Lib.hid hq0
                  clear h7 hq0
                  have e16 : ((d : Int) == 16) = false := by rw [beq_eq_false_iff_ne]; omega
                  have hgne : g ≠ wL.heap.size := by have := HGL.out; omega
                  have hq2 := (HQV.out.set 5 (.int .i64 ((d : Int) + 1)) i' (d + 1) (0, 0, 0) (by rw [show ((d : Int) + 1) = ((d + 1 : Nat) : Int) by omega]; rfl)).set 1 (.int .i64 ((i' : Int) + 1)) (i' + 1) (d + 1) (0, 0, 0) (by rw [show ((i' : Int) + 1) = ((i' + 1 : Nat) : Int) by omega]; rfl)
                  have hs2 := (HSV.out.setCell (p := ⟨g, 5, none⟩) (.inl rfl) (.int .i64 ((d : Int) + 1))).setCell (p := ⟨g, 1, none⟩) (.inl rfl) (.int .i64 ((i' : Int) + 1))
                  have hx2 := (Lx.set_keep (b := g) _ 1 (.int .i64 ((i' : Int) + 1)) hgne).trans ((Lx.set_keep (b := g) V 5 (.int .i64 ((d : Int) + 1)) hgne).trans HXV.out)
                  have hi2 : i' + 1 < ts.length := hE i' (by omega)
                  have KX := fun w (hw : QAt w g r ts cap (i' + 1) (d + 1) (0, 0, 0)) => halt f4 (by omega) w g r cap (i' + 1) (d + 1) _ hw hi2 (by omega) h6
                  have HX := Lib.hid KX
                  have HQ2 := Lib.hid hq2
                  have HS2 := Lib.hid hs2
                  have HX2 := Lib.hid hx2
                  have HGN := Lib.hid hgne
                  obtain ⟨c0, c1, c2, c3, c4, c5, cf⟩ := HQV.out.facts
                  have b1 : (V.setCell ⟨g, 5, none⟩ (.int .i64 ((d : Int) + 1))).cell? ⟨g, 1, none⟩ = some (.int .i64 i') := (World.cell?_setCell_other V _ _ _ (by simp)).trans c1
                  have bf := fun k : Nat => frozen_qrow (Lx.heap_set HQV.out.blk 5 (.int .i64 ((d : Int) + 1))) k
                  clear hq2 hs2 hx2 KX h6 hgne c0 c2 c3 c4
                  go_wp2_with fail
                  generalize hV2 : World.setCell (World.setCell V _ _) _ _ = V2
                  rw [hV2] at HQ2 HS2 HX2
                  clear hV2
                  refine (HX.out _ HQ2.out).mono ?_
                  rintro e w3 ⟨n3, tx3, A3, m3, cp3, j3, d3, rfl, hj3, hq3, hs3⟩
                  have hx3 := (hs3.block _ (heap_lt HX2.out) (fun e => HGN.out e.symm)).trans HX2.out
                  have z0 := cell_of_row _ _ 0 _ _ (0, 0) hx3
                  have z1 := cell_of_row _ _ 1 _ _ (0, 0) hx3
                  have z2 := cell_of_row _ _ 2 _ _ (0, 0) hx3
                  have zf := frozen_qrow hx3
                  obtain ⟨hq4, hs4⟩ := q_set3 hq3 HGL.out (HS2.out.trans (hs3.mono HS2.out.size)) (.int .i64 n3) (.string tx3) (.slice A3 m3 cp3)
                  have KN := needq_any _ g r ts cap j3 d3 (l2, k2, q2) c hq4 hj3 hn
                  rw [sgF HQ0.out, if_neg (by decide), if_neg (by decide), show badQ (l2, k2, q2) ts j3 2 = (l2, k2, q2) by unfold badQ; rw [if_neg HQ0.out]] at KN
                  have HKN := Lib.hid KN
                  have HS4 := Lib.hid hs4
                  clear KN hs4 hq4 hq3 hs3 hx3
                  go_wp2_with fail
                  refine HKN.out.mono ?_
                  rintro e w5 ⟨rfl, hq5, hs5⟩
                  obtain ⟨c0, c1, c2, c3, c4, c5, cf⟩ := hq5.facts
                  have HL5 := Lib.hid (HL1.out.call hg hq5 (HS4.out.trans (hs5.mono HS4.out.size)))
                  have HJ3 := Lib.hid hj3
                  clear hq5 hs5 c0 c1 c2 c3 c5 hj3
                  go_wp2
                  go_meet
                  case rel => exact ⟨A, cp, acc, .inr ⟨_, _, _, j3, d3, HR7.out, HJ3.out, HL5.out⟩⟩
                · cases h7
                · have hff : f4 + 3 ≤ f := by omega
                  clear h1 h4 hM hc hk3 hf3 hf4 hcc
                  have b5 : Below wL.heap.size wL (wL.alloc (.cells #[.int .i64 (tkAt ts i').kind, .string tx, .slice none 0 0] 66)) := (Below.refl _ _).alloc (Nat.le_refl _) _
                  have HQV := Lib.hid (HL1.out.par.below b5)
                  have HXV := Lib.hid (heap_alloc_new wL (.cells #[.int .i64 (tkAt ts i').kind, .string tx, .slice none 0 0] 66))
                  have HSV := Lib.hid (Lx.Sep.of_below (g := g) b5)
                  clear b5
                  obtain ⟨c0, c1, c2, c3, c4, c5, cf⟩ := HL1.out.par.facts
                  go_upto_if 42 with fail
                  clear c0 c1 c2 c3 c4 c5 cf
                  generalize hV : World.alloc wL _ = V
                  rw [hV] at HQV HXV HSV
                  clear hV
                  have hk2 := (inb_all ts hE f4).1 (d + 1) (i' + 1) (hE i' (by omega)) t2 k2 h6
                  have HK2 := Lib.hid hk2
                  have HR7 := Lib.hid h7
                  have HSG := Lib.hid hs
                  clear h7 hs hk2
                  have e16 : ((d : Int) == 16) = false := by rw [beq_eq_false_iff_ne]; omega
                  have hgne : g ≠ wL.heap.size := by have := HGL.out; omega
                  have hq2 := (HQV.out.set 5 (.int .i64 ((d : Int) + 1)) i' (d + 1) (0, 0, 0) (by rw [show ((d : Int) + 1) = ((d + 1 : Nat) : Int) by omega]; rfl)).set 1 (.int .i64 ((i' : Int) + 1)) (i' + 1) (d + 1) (0, 0, 0) (by rw [show ((i' : Int) + 1) = ((i' + 1 : Nat) : Int) by omega]; rfl)
                  have hs2 := (HSV.out.setCell (p := ⟨g, 5, none⟩) (.inl rfl) (.int .i64 ((d : Int) + 1))).setCell (p := ⟨g, 1, none⟩) (.inl rfl) (.int .i64 ((i' : Int) + 1))
                  have hx2 := (Lx.set_keep (b := g) _ 1 (.int .i64 ((i' : Int) + 1)) hgne).trans ((Lx.set_keep (b := g) V 5 (.int .i64 ((d : Int) + 1)) hgne).trans HXV.out)
                  have hi2 : i' + 1 < ts.length := hE i' (by omega)
                  have KX := fun w (hw : QAt w g r ts cap (i' + 1) (d + 1) (0, 0, 0)) => halt f4 (by omega) w g r cap (i' + 1) (d + 1) _ hw hi2 (by omega) h6
                  have HX := Lib.hid KX
                  have HQ2 := Lib.hid hq2
                  have HS2 := Lib.hid hs2
                  have HX2 := Lib.hid hx2
                  have HGN := Lib.hid hgne
                  obtain ⟨c0, c1, c2, c3, c4, c5, cf⟩ := HQV.out.facts
                  have b1 : (V.setCell ⟨g, 5, none⟩ (.int .i64 ((d : Int) + 1))).cell? ⟨g, 1, none⟩ = some (.int .i64 i') := (World.cell?_setCell_other V _ _ _ (by simp)).trans c1
                  have bf := fun k : Nat => frozen_qrow (Lx.heap_set HQV.out.blk 5 (.int .i64 ((d : Int) + 1))) k
                  clear hq2 hs2 hx2 KX h6 hgne c0 c2 c3 c4
                  go_wp2_with fail
                  generalize hV2 : World.setCell (World.setCell V _ _) _ _ = V2
                  rw [hV2] at HQ2 HS2 HX2
                  clear hV2
                  refine (HX.out _ HQ2.out).mono ?_
                  rintro e w3 ⟨xa, xb, xc, rfl, hnd, hq3, hs3⟩
                  obtain ⟨ka, ta, Aa, na, ca, rfl, rfl, rfl⟩ := hnd.form
                  have hx3 := (hs3.block _ (heap_lt HX2.out) (fun e => HGN.out e.symm)).trans HX2.out
                  have z0 := cell_of_row _ _ 0 _ _ (0, 0) hx3
                  have z1 := cell_of_row _ _ 1 _ _ (0, 0) hx3
                  have z2 := cell_of_row _ _ 2 _ _ (0, 0) hx3
                  have zf := frozen_qrow hx3
                  obtain ⟨hq4, hs4⟩ := q_set3 hq3 HGL.out (HS2.out.trans (hs3.mono HS2.out.size)) (.int .i64 ka) (.string ta) (.slice Aa na ca)
                  have hx4 := qres_done hx3 (.int .i64 ka) (.string ta) (.slice Aa na ca)
                  have hn4 := hnd.keep (W' := ((w3.setCell ⟨wL.heap.size, 0, none⟩ (.int .i64 ka)).setCell ⟨wL.heap.size, 1, none⟩ (.string ta)).setCell ⟨wL.heap.size, 2, none⟩ (.slice Aa na ca)) (Q := fun q => wL.heap.size + 1 ≤ q) (by rw [res_size]; exact Nat.le_refl _) fun q hq _ => ⟨by have := heap_lt HX2.out; omega, fun k => by
                    have := res_keep w3 (b := wL.heap.size) (k := q) (.int .i64 ka) (.string ta) (.slice Aa na ca) (by have := heap_lt HX2.out; omega)
                    unfold World.cell?
                    simp only [this]⟩
                  have KN := needq_any _ g r ts cap k2 (d + 1) (0, 0, 0) c hq4 HK2.out hn
                  rw [sg0, HSG.out] at KN
                  rw [if_neg (by decide), if_neg (by decide), show badQ (0, 0, 0) ts k2 2 = ((tkAt ts k2).line, (tkAt ts k2).col, 2) by unfold badQ; rw [if_pos rfl]] at KN
                  have HKN := Lib.hid KN
                  have HS4 := Lib.hid hs4
                  clear KN hs4 hq4 hq3 hs3 hx3 hx4 hn4 hnd
                  go_wp2_with fail
                  refine HKN.out.mono ?_
                  rintro e w5 ⟨rfl, hq5, hs5⟩
                  obtain ⟨c0, c1, c2, c3, c4, c5, cf⟩ := hq5.facts
                  have HL5 := Lib.hid (HL1.out.call hg hq5 (HS4.out.trans (hs5.mono HS4.out.size)))
                  clear hq5 hs5 c0 c1 c2 c3 c5
                  go_wp2
                  go_meet
                  case rel => exact ⟨A, cp, acc, .inr ⟨_, _, _, k2, d + 1, HR7.out, HK2.out, HL5.out⟩⟩
              · cases h5
            · have hjs := (inb_all ts hE f'').2.2.2.2.1 d i' hi' t j h1
              have hj2 := (adv_all ts f'').2.2.2.2.1 d i' t j h1
              obtain ⟨f3, hf3, ⟨l', c', q', _, h5⟩ | ⟨t1, j1, h4, h5⟩⟩ := item_split hn h1
              · cases h5
              · injection h5 with h5 h6
                subst h5 h6
                have hj1 := (inb_all ts hE f3).2.2.2.2.2 d i' hi' t1 j1 h4
                obtain ⟨f4, hf4, ⟨_, h6⟩ | ⟨hd16, ⟨l2, k2, q2, _, h7⟩ | ⟨t2, k2, h6, ⟨hs, h7⟩ | ⟨_, h7⟩⟩⟩⟩ := atom_brk hn hc h4
                · exact absurd h6 (by unfold Res.bad; simp)
                · cases h7
                · have hff : f4 + 3 ≤ f := by omega
                  clear h1 h4 hM hc hk3 hf3 hf4
                  have H2b := Lib.hid h2
                  have HJ1 := Lib.hid (hj1 : j1 < ts.length)
                  have HJ2 := Lib.hid (hj2 : i' + 1 ≤ sufI ts j1)
                  have HJS := Lib.hid (hjs : sufI ts j1 < ts.length)
                  clear hj1 hj2 hjs h2
                  have b5 : Below wL.heap.size wL (wL.alloc (.cells #[.int .i64 (tkAt ts i').kind, .string tx, .slice none 0 0] 66)) := (Below.refl _ _).alloc (Nat.le_refl _) _
                  have HQV := Lib.hid (HL1.out.par.below b5)
                  have HXV := Lib.hid (heap_alloc_new wL (.cells #[.int .i64 (tkAt ts i').kind, .string tx, .slice none 0 0] 66))
                  have HSV := Lib.hid (Lx.Sep.of_below (g := g) b5)
                  clear b5
                  obtain ⟨c0, c1, c2, c3, c4, c5, cf⟩ := HL1.out.par.facts
                  go_upto_if 42 with fail
                  clear c0 c1 c2 c3 c4 c5 cf
                  generalize hV : World.alloc wL _ = V
                  rw [hV] at HQV HXV HSV
                  clear hV

                  go_cut [7] (fun _ wx => Atm wL g r ts cap d t1 j1 wx)
                  case first =>
                    rcases hcc with rfl | rfl | rfl
                    · rw [show kdB (some 41) = 0 from rfl]
                      have hk2 := (inb_all ts hE f4).1 (d + 1) (i' + 1) (hE i' (by omega)) t2 k2 h6
                      have HK2 := Lib.hid hk2
                      have HR7 := Lib.hid h7
                      have HSG := Lib.hid hs
                      clear h7 hs hk2
                      have e16 : ((d : Int) == 16) = false := by rw [beq_eq_false_iff_ne]; omega
                      have hgne : g ≠ wL.heap.size := by have := HGL.out; omega
                      have hq2 := (HQV.out.set 5 (.int .i64 ((d : Int) + 1)) i' (d + 1) (0, 0, 0) (by rw [show ((d : Int) + 1) = ((d + 1 : Nat) : Int) by omega]; rfl)).set 1 (.int .i64 ((i' : Int) + 1)) (i' + 1) (d + 1) (0, 0, 0) (by rw [show ((i' : Int) + 1) = ((i' + 1 : Nat) : Int) by omega]; rfl)
                      have hs2 := (HSV.out.setCell (p := ⟨g, 5, none⟩) (.inl rfl) (.int .i64 ((d : Int) + 1))).setCell (p := ⟨g, 1, none⟩) (.inl rfl) (.int .i64 ((i' : Int) + 1))
                      have hx2 := (Lx.set_keep (b := g) _ 1 (.int .i64 ((i' : Int) + 1)) hgne).trans ((Lx.set_keep (b := g) V 5 (.int .i64 ((d : Int) + 1)) hgne).trans HXV.out)
                      have hi2 : i' + 1 < ts.length := hE i' (by omega)
                      have KX := fun w (hw : QAt w g r ts cap (i' + 1) (d + 1) (0, 0, 0)) => halt f4 (by omega) w g r cap (i' + 1) (d + 1) _ hw hi2 (by omega) h6
                      have HX := Lib.hid KX
                      have HQ2 := Lib.hid hq2
                      have HS2 := Lib.hid hs2
                      have HX2 := Lib.hid hx2
                      have HGN := Lib.hid hgne
                      obtain ⟨c0, c1, c2, c3, c4, c5, cf⟩ := HQV.out.facts
                      have b1 : (V.setCell ⟨g, 5, none⟩ (.int .i64 ((d : Int) + 1))).cell? ⟨g, 1, none⟩ = some (.int .i64 i') := (World.cell?_setCell_other V _ _ _ (by simp)).trans c1
                      have bf := fun k : Nat => frozen_qrow (Lx.heap_set HQV.out.blk 5 (.int .i64 ((d : Int) + 1))) k
                      clear hq2 hs2 hx2 KX h6 hgne c0 c2 c3 c4
                      go_wp2_with fail
                      generalize hV2 : World.setCell (World.setCell V _ _) _ _ = V2
                      rw [hV2] at HQ2 HS2 HX2
                      clear hV2
                      refine (HX.out _ HQ2.out).mono ?_
                      rintro e w3 ⟨xa, xb, xc, rfl, hnd, hq3, hs3⟩
                      obtain ⟨ka, ta, Aa, na, ca, rfl, rfl, rfl⟩ := hnd.form
                      have hx3 := (hs3.block _ (heap_lt HX2.out) (fun e => HGN.out e.symm)).trans HX2.out
                      have z0 := cell_of_row _ _ 0 _ _ (0, 0) hx3
                      have z1 := cell_of_row _ _ 1 _ _ (0, 0) hx3
                      have z2 := cell_of_row _ _ 2 _ _ (0, 0) hx3
                      have zf := frozen_qrow hx3
                      obtain ⟨hq4, hs4⟩ := q_set3 hq3 HGL.out (HS2.out.trans (hs3.mono HS2.out.size)) (.int .i64 ka) (.string ta) (.slice Aa na ca)
                      have hx4 := qres_done hx3 (.int .i64 ka) (.string ta) (.slice Aa na ca)
                      have hn4 := hnd.keep (W' := ((w3.setCell ⟨wL.heap.size, 0, none⟩ (.int .i64 ka)).setCell ⟨wL.heap.size, 1, none⟩ (.string ta)).setCell ⟨wL.heap.size, 2, none⟩ (.slice Aa na ca)) (Q := fun q => wL.heap.size + 1 ≤ q) (by rw [res_size]; exact Nat.le_refl _) fun q hq _ => ⟨by have := heap_lt HX2.out; omega, fun k => by
                        have := res_keep w3 (b := wL.heap.size) (k := q) (.int .i64 ka) (.string ta) (.slice Aa na ca) (by have := heap_lt HX2.out; omega)
                        unfold World.cell?
                        simp only [this]⟩
                      have KN := needq_any _ g r ts cap k2 (d + 1) (0, 0, 0) 41 hq4 HK2.out hn
                      rw [sg0, HSG.out] at KN
                      rw [if_pos rfl, if_pos rfl] at KN
                      have HKN := Lib.hid KN
                      have HS4 := Lib.hid hs4
                      have HX4 := Lib.hid hx4
                      have HN4 := Lib.hid hn4
                      clear KN hs4 hq4 hq3 hs3 hx3 hx4 hn4 hnd
                      go_wp2_with fail
                      refine HKN.out.mono ?_
                      rintro e w5 ⟨rfl, hq5, hs5⟩
                      have c4 := hq5.facts.2.2.2.2.1
                      have c5 : w5.cell? ⟨g, 5, none⟩ = some (.int .i64 ((d : Int) + 1)) := hq5.facts.2.2.2.2.2.1
                      have cf := hq5.facts.2.2.2.2.2.2
                      have hs6 := HS4.out.trans (hs5.mono HS4.out.size)
                      have hx5 := (hs5.block _ (heap_lt HX4.out) (fun e => HGN.out e.symm)).trans HX4.out
                      have hn5 := HN4.out.keep (W' := w5) (Q := fun q => wL.heap.size + 1 ≤ q) hs5.size fun q hq hl => ⟨hq, fun k => by
                        have := hs5.block q hl (by have := HGL.out; omega)
                        unfold World.cell?
                        simp only [this]⟩
                      have hx6 := (Lx.set_keep (b := g) w5 5 (.int .i64 (d : Int)) HGN.out).trans hx5
                      have hn6 := hn5.keep (W' := w5.setCell ⟨g, 5, none⟩ (.int .i64 (d : Int))) (Q := fun q => wL.heap.size + 1 ≤ q) (by simp [World.setCell]) fun q hq _ => ⟨hq, fun k => World.cell?_setCell_other w5 _ _ _ (fun e => by have := HGL.out; injection e with e; omega)⟩
                      have hA6 : Atm wL g r ts cap d t2 (k2 + 1) (w5.setCell ⟨g, 5, none⟩ (.int .i64 (d : Int))) := ⟨hq5.set 5 (.int .i64 (d : Int)) (k2 + 1) d (0, 0, 0) rfl, hs6.setCell (p := ⟨g, 5, none⟩) (.inl rfl) _, _, _, _, hx6, hn6⟩
                      have HW := Lib.hid hA6
                      clear hq5 hs5 hs6 hx5 hn5 hx6 hn6 hA6
                      go_wp2
                      go_meet
                      case rel => exact (by have e7 := HR7.out; injection e7 with e7 e8; rw [e7, e8]; exact HW.out)
                    · rw [show kdB (some 93) = 5 from rfl]
                      have hk2 := (inb_all ts hE f4).1 (d + 1) (i' + 1) (hE i' (by omega)) t2 k2 h6
                      have HK2 := Lib.hid hk2
                      have HR7 := Lib.hid h7
                      have HSG := Lib.hid hs
                      clear h7 hs hk2
                      have e16 : ((d : Int) == 16) = false := by rw [beq_eq_false_iff_ne]; omega
                      have hgne : g ≠ wL.heap.size := by have := HGL.out; omega
                      have hq2 := (HQV.out.set 5 (.int .i64 ((d : Int) + 1)) i' (d + 1) (0, 0, 0) (by rw [show ((d : Int) + 1) = ((d + 1 : Nat) : Int) by omega]; rfl)).set 1 (.int .i64 ((i' : Int) + 1)) (i' + 1) (d + 1) (0, 0, 0) (by rw [show ((i' : Int) + 1) = ((i' + 1 : Nat) : Int) by omega]; rfl)
                      have hs2 := (HSV.out.setCell (p := ⟨g, 5, none⟩) (.inl rfl) (.int .i64 ((d : Int) + 1))).setCell (p := ⟨g, 1, none⟩) (.inl rfl) (.int .i64 ((i' : Int) + 1))
                      have hx2 := (Lx.set_keep (b := g) _ 1 (.int .i64 ((i' : Int) + 1)) hgne).trans ((Lx.set_keep (b := g) V 5 (.int .i64 ((d : Int) + 1)) hgne).trans HXV.out)
                      have hi2 : i' + 1 < ts.length := hE i' (by omega)
                      have KX := fun w (hw : QAt w g r ts cap (i' + 1) (d + 1) (0, 0, 0)) => halt f4 (by omega) w g r cap (i' + 1) (d + 1) _ hw hi2 (by omega) h6
                      have HX := Lib.hid KX
                      have HQ2 := Lib.hid hq2
                      have HS2 := Lib.hid hs2
                      have HX2 := Lib.hid hx2
                      have HGN := Lib.hid hgne
                      obtain ⟨c0, c1, c2, c3, c4, c5, cf⟩ := HQV.out.facts
                      have b1 : (V.setCell ⟨g, 5, none⟩ (.int .i64 ((d : Int) + 1))).cell? ⟨g, 1, none⟩ = some (.int .i64 i') := (World.cell?_setCell_other V _ _ _ (by simp)).trans c1
                      have bf := fun k : Nat => frozen_qrow (Lx.heap_set HQV.out.blk 5 (.int .i64 ((d : Int) + 1))) k
                      clear hq2 hs2 hx2 KX h6 hgne c0 c2 c3 c4
                      go_wp2_with fail
                      generalize hV2 : World.setCell (World.setCell V _ _) _ _ = V2
                      rw [hV2] at HQ2 HS2 HX2
                      clear hV2
                      refine (HX.out _ HQ2.out).mono ?_
                      rintro e w3 ⟨xa, xb, xc, rfl, hnd, hq3, hs3⟩
                      obtain ⟨ka, ta, Aa, na, ca, rfl, rfl, rfl⟩ := hnd.form
                      have hx3 := (hs3.block _ (heap_lt HX2.out) (fun e => HGN.out e.symm)).trans HX2.out
                      have z0 := cell_of_row _ _ 0 _ _ (0, 0) hx3
                      have z1 := cell_of_row _ _ 1 _ _ (0, 0) hx3
                      have z2 := cell_of_row _ _ 2 _ _ (0, 0) hx3
                      have zf := frozen_qrow hx3
                      obtain ⟨hq4, hs4⟩ := q_set3 hq3 HGL.out (HS2.out.trans (hs3.mono HS2.out.size)) (.int .i64 ka) (.string ta) (.slice Aa na ca)
                      have hx4 := qres_done hx3 (.int .i64 ka) (.string ta) (.slice Aa na ca)
                      have hn4 := hnd.keep (W' := ((w3.setCell ⟨wL.heap.size, 0, none⟩ (.int .i64 ka)).setCell ⟨wL.heap.size, 1, none⟩ (.string ta)).setCell ⟨wL.heap.size, 2, none⟩ (.slice Aa na ca)) (Q := fun q => wL.heap.size + 1 ≤ q) (by rw [res_size]; exact Nat.le_refl _) fun q hq _ => ⟨by have := heap_lt HX2.out; omega, fun k => by
                        have := res_keep w3 (b := wL.heap.size) (k := q) (.int .i64 ka) (.string ta) (.slice Aa na ca) (by have := heap_lt HX2.out; omega)
                        unfold World.cell?
                        simp only [this]⟩
                      have KN := needq_any _ g r ts cap k2 (d + 1) (0, 0, 0) 93 hq4 HK2.out hn
                      rw [sg0, HSG.out] at KN
                      rw [if_pos rfl, if_pos rfl] at KN
                      have HKN := Lib.hid KN
                      have HS4 := Lib.hid hs4
                      have HX4 := Lib.hid hx4
                      have HN4 := Lib.hid hn4
                      clear KN hs4 hq4 hq3 hs3 hx3 hx4 hn4 hnd
                      go_wp2_with fail
                      refine HKN.out.mono ?_
                      rintro e w5 ⟨rfl, hq5, hs5⟩
                      have c4 := hq5.facts.2.2.2.2.1
                      have c5 : w5.cell? ⟨g, 5, none⟩ = some (.int .i64 ((d : Int) + 1)) := hq5.facts.2.2.2.2.2.1
                      have cf := hq5.facts.2.2.2.2.2.2
                      have hs6 := HS4.out.trans (hs5.mono HS4.out.size)
                      have hx5 := (hs5.block _ (heap_lt HX4.out) (fun e => HGN.out e.symm)).trans HX4.out
                      have hn5 := HN4.out.keep (W' := w5) (Q := fun q => wL.heap.size + 1 ≤ q) hs5.size fun q hq hl => ⟨hq, fun k => by
                        have := hs5.block q hl (by have := HGL.out; omega)
                        unfold World.cell?
                        simp only [this]⟩
                      have hx6 := (Lx.set_keep (b := g) w5 5 (.int .i64 (d : Int)) HGN.out).trans hx5
                      have hn6 := hn5.keep (W' := w5.setCell ⟨g, 5, none⟩ (.int .i64 (d : Int))) (Q := fun q => wL.heap.size + 1 ≤ q) (by simp [World.setCell]) fun q hq _ => ⟨hq, fun k => World.cell?_setCell_other w5 _ _ _ (fun e => by have := HGL.out; injection e with e; omega)⟩
                      have hA6 : Atm wL g r ts cap d t2 (k2 + 1) (w5.setCell ⟨g, 5, none⟩ (.int .i64 (d : Int))) := ⟨hq5.set 5 (.int .i64 (d : Int)) (k2 + 1) d (0, 0, 0) rfl, hs6.setCell (p := ⟨g, 5, none⟩) (.inl rfl) _, _, _, _, hx6, hn6⟩
                      have hW := hA6.wrap hx6 hn6 HGL.out 5
                      rw [show (w5.setCell ⟨g, 5, none⟩ (.int .i64 (d : Int))).heap.size = w5.heap.size by simp [World.setCell]] at hW
                      have HW := Lib.hid hW
                      have l0 := cell_of_row _ _ 0 _ _ (0, 0) hx6
                      have l1 := cell_of_row _ _ 1 _ _ (0, 0) hx6
                      have l2 := cell_of_row _ _ 2 _ _ (0, 0) hx6
                      have lf := frozen_qrow hx6
                      have hx7 := fun o : Obj => (heap_alloc_old (w5.setCell ⟨g, 5, none⟩ (.int .i64 (d : Int))) o (heap_lt hx6)).trans hx6
                      have n0 := fun o : Obj => cell_of_row _ _ 0 _ _ (0, 0) (hx7 o)
                      have n1 := fun o : Obj => cell_of_row _ _ 1 _ _ (0, 0) (hx7 o)
                      have n2 := fun o : Obj => cell_of_row _ _ 2 _ _ (0, 0) (hx7 o)
                      have nf := fun o : Obj => frozen_qrow (hx7 o)
                      have hxl6 := heap_lt hx5
                      clear hq5 hs5 hs6 hx5 hn5 hx6 hx7 hn6 hA6 hW
                      go_wp2
                      go_meet
                      case rel => exact (by have e7 := HR7.out; injection e7 with e7 e8; rw [e7, e8]; exact HW.out)
                    · rw [show kdB (some 125) = 6 from rfl]
                      have hk2 := (inb_all ts hE f4).1 (d + 1) (i' + 1) (hE i' (by omega)) t2 k2 h6
                      have HK2 := Lib.hid hk2
                      have HR7 := Lib.hid h7
                      have HSG := Lib.hid hs
                      clear h7 hs hk2
                      have e16 : ((d : Int) == 16) = false := by rw [beq_eq_false_iff_ne]; omega
                      have hgne : g ≠ wL.heap.size := by have := HGL.out; omega
                      have hq2 := (HQV.out.set 5 (.int .i64 ((d : Int) + 1)) i' (d + 1) (0, 0, 0) (by rw [show ((d : Int) + 1) = ((d + 1 : Nat) : Int) by omega]; rfl)).set 1 (.int .i64 ((i' : Int) + 1)) (i' + 1) (d + 1) (0, 0, 0) (by rw [show ((i' : Int) + 1) = ((i' + 1 : Nat) : Int) by omega]; rfl)
                      have hs2 := (HSV.out.setCell (p := ⟨g, 5, none⟩) (.inl rfl) (.int .i64 ((d : Int) + 1))).setCell (p := ⟨g, 1, none⟩) (.inl rfl) (.int .i64 ((i' : Int) + 1))
                      have hx2 := (Lx.set_keep (b := g) _ 1 (.int .i64 ((i' : Int) + 1)) hgne).trans ((Lx.set_keep (b := g) V 5 (.int .i64 ((d : Int) + 1)) hgne).trans HXV.out)
                      have hi2 : i' + 1 < ts.length := hE i' (by omega)
                      have KX := fun w (hw : QAt w g r ts cap (i' + 1) (d + 1) (0, 0, 0)) => halt f4 (by omega) w g r cap (i' + 1) (d + 1) _ hw hi2 (by omega) h6
                      have HX := Lib.hid KX
                      have HQ2 := Lib.hid hq2
                      have HS2 := Lib.hid hs2
                      have HX2 := Lib.hid hx2
                      have HGN := Lib.hid hgne
                      obtain ⟨c0, c1, c2, c3, c4, c5, cf⟩ := HQV.out.facts
                      have b1 : (V.setCell ⟨g, 5, none⟩ (.int .i64 ((d : Int) + 1))).cell? ⟨g, 1, none⟩ = some (.int .i64 i') := (World.cell?_setCell_other V _ _ _ (by simp)).trans c1
                      have bf := fun k : Nat => frozen_qrow (Lx.heap_set HQV.out.blk 5 (.int .i64 ((d : Int) + 1))) k
                      clear hq2 hs2 hx2 KX h6 hgne c0 c2 c3 c4
                      go_wp2_with fail
                      generalize hV2 : World.setCell (World.setCell V _ _) _ _ = V2
                      rw [hV2] at HQ2 HS2 HX2
                      clear hV2
                      refine (HX.out _ HQ2.out).mono ?_
                      rintro e w3 ⟨xa, xb, xc, rfl, hnd, hq3, hs3⟩
                      obtain ⟨ka, ta, Aa, na, ca, rfl, rfl, rfl⟩ := hnd.form
                      have hx3 := (hs3.block _ (heap_lt HX2.out) (fun e => HGN.out e.symm)).trans HX2.out
                      have z0 := cell_of_row _ _ 0 _ _ (0, 0) hx3
                      have z1 := cell_of_row _ _ 1 _ _ (0, 0) hx3
                      have z2 := cell_of_row _ _ 2 _ _ (0, 0) hx3
                      have zf := frozen_qrow hx3
                      obtain ⟨hq4, hs4⟩ := q_set3 hq3 HGL.out (HS2.out.trans (hs3.mono HS2.out.size)) (.int .i64 ka) (.string ta) (.slice Aa na ca)
                      have hx4 := qres_done hx3 (.int .i64 ka) (.string ta) (.slice Aa na ca)
                      have hn4 := hnd.keep (W' := ((w3.setCell ⟨wL.heap.size, 0, none⟩ (.int .i64 ka)).setCell ⟨wL.heap.size, 1, none⟩ (.string ta)).setCell ⟨wL.heap.size, 2, none⟩ (.slice Aa na ca)) (Q := fun q => wL.heap.size + 1 ≤ q) (by rw [res_size]; exact Nat.le_refl _) fun q hq _ => ⟨by have := heap_lt HX2.out; omega, fun k => by
                        have := res_keep w3 (b := wL.heap.size) (k := q) (.int .i64 ka) (.string ta) (.slice Aa na ca) (by have := heap_lt HX2.out; omega)
                        unfold World.cell?
                        simp only [this]⟩
                      have KN := needq_any _ g r ts cap k2 (d + 1) (0, 0, 0) 125 hq4 HK2.out hn
                      rw [sg0, HSG.out] at KN
                      rw [if_pos rfl, if_pos rfl] at KN
                      have HKN := Lib.hid KN
                      have HS4 := Lib.hid hs4
                      have HX4 := Lib.hid hx4
                      have HN4 := Lib.hid hn4
                      clear KN hs4 hq4 hq3 hs3 hx3 hx4 hn4 hnd
                      go_wp2_with fail
                      refine HKN.out.mono ?_
                      rintro e w5 ⟨rfl, hq5, hs5⟩
                      have c4 := hq5.facts.2.2.2.2.1
                      have c5 : w5.cell? ⟨g, 5, none⟩ = some (.int .i64 ((d : Int) + 1)) := hq5.facts.2.2.2.2.2.1
                      have cf := hq5.facts.2.2.2.2.2.2
                      have hs6 := HS4.out.trans (hs5.mono HS4.out.size)
                      have hx5 := (hs5.block _ (heap_lt HX4.out) (fun e => HGN.out e.symm)).trans HX4.out
                      have hn5 := HN4.out.keep (W' := w5) (Q := fun q => wL.heap.size + 1 ≤ q) hs5.size fun q hq hl => ⟨hq, fun k => by
                        have := hs5.block q hl (by have := HGL.out; omega)
                        unfold World.cell?
                        simp only [this]⟩
                      have hx6 := (Lx.set_keep (b := g) w5 5 (.int .i64 (d : Int)) HGN.out).trans hx5
                      have hn6 := hn5.keep (W' := w5.setCell ⟨g, 5, none⟩ (.int .i64 (d : Int))) (Q := fun q => wL.heap.size + 1 ≤ q) (by simp [World.setCell]) fun q hq _ => ⟨hq, fun k => World.cell?_setCell_other w5 _ _ _ (fun e => by have := HGL.out; injection e with e; omega)⟩
                      have hA6 : Atm wL g r ts cap d t2 (k2 + 1) (w5.setCell ⟨g, 5, none⟩ (.int .i64 (d : Int))) := ⟨hq5.set 5 (.int .i64 (d : Int)) (k2 + 1) d (0, 0, 0) rfl, hs6.setCell (p := ⟨g, 5, none⟩) (.inl rfl) _, _, _, _, hx6, hn6⟩
                      have hW := hA6.wrap hx6 hn6 HGL.out 6
                      rw [show (w5.setCell ⟨g, 5, none⟩ (.int .i64 (d : Int))).heap.size = w5.heap.size by simp [World.setCell]] at hW
                      have HW := Lib.hid hW
                      have l0 := cell_of_row _ _ 0 _ _ (0, 0) hx6
                      have l1 := cell_of_row _ _ 1 _ _ (0, 0) hx6
                      have l2 := cell_of_row _ _ 2 _ _ (0, 0) hx6
                      have lf := frozen_qrow hx6
                      have hx7 := fun o : Obj => (heap_alloc_old (w5.setCell ⟨g, 5, none⟩ (.int .i64 (d : Int))) o (heap_lt hx6)).trans hx6
                      have n0 := fun o : Obj => cell_of_row _ _ 0 _ _ (0, 0) (hx7 o)
                      have n1 := fun o : Obj => cell_of_row _ _ 1 _ _ (0, 0) (hx7 o)
                      have n2 := fun o : Obj => cell_of_row _ _ 2 _ _ (0, 0) (hx7 o)
                      have nf := fun o : Obj => frozen_qrow (hx7 o)
                      have hxl6 := heap_lt hx5
                      clear hq5 hs5 hs6 hx5 hn5 hx6 hx7 hn6 hA6 hW
                      go_wp2
                      go_meet
                      case rel => exact (by have e7 := HR7.out; injection e7 with e7 e8; rw [e7, e8]; exact HW.out)
                  case rest =>
                    have HAT := Lib.hid hcut
                    clear hcut
                    cases h42 : isSg ts j1 42
                    · cases h43 : isSg ts j1 43
                      · cases h63 : isSg ts j1 63
                        · have K63 := fun w (hw : QAt w g r ts cap j1 d (0, 0, 0)) => isq_any w g r ts cap j1 d (0, 0, 0) 63 hw HJ1.out hn
                          simp only [sg0, h63] at K63
                          have HK63 := Lib.hid K63
                          clear K63
                          have K42 := fun w (hw : QAt w g r ts cap j1 d (0, 0, 0)) => isq_any w g r ts cap j1 d (0, 0, 0) 42 hw HJ1.out hn
                          simp only [sg0, h42] at K42
                          have HK42 := Lib.hid K42
                          clear K42
                          have K43 := fun w (hw : QAt w g r ts cap j1 d (0, 0, 0)) => isq_any w g r ts cap j1 d (0, 0, 0) 43 hw HJ1.out hn
                          simp only [sg0, h43] at K43
                          have HK43 := Lib.hid K43
                          clear K43
                          have HSK := Lib.hid (show sufK ts j1 = 0 by unfold sufK; rw [if_neg (by rw [h42]; decide), if_neg (by rw [h43]; decide), if_neg (by rw [h63]; decide)])
                          clear h42 h43 h63
                          go_wp2_with fail
                          refine (HK63.out _ HAT.out.par).mono ?_
                          rintro e w2 ⟨rfl, b2⟩
                          have HA2 := Lib.hid (HAT.out.below b2)
                          clear b2
                          go_wp2_with fail
                          refine (HK42.out _ HA2.out.par).mono ?_
                          rintro e w3 ⟨rfl, b3⟩
                          have HA3 := Lib.hid (HA2.out.below b3)
                          clear b3
                          go_wp2_with fail
                          refine (HK43.out _ HA3.out.par).mono ?_
                          rintro e w4 ⟨rfl, b4⟩
                          have HA4 := Lib.hid (HA3.out.below b4)
                          clear b4
                          go_upto_if 102 with fail
                          go_cut [7] (fun _ wx => Atm wL g r ts cap d (sufT ts j1 t1) (sufI ts j1) wx)
                          case first =>
                            go_wp2
                            go_meet
                            case rel => exact (by unfold sufT sufI; rw [HSK.out]; exact HA4.out)
                          case rest =>
                            obtain ⟨hq5, hs5, x5, y5, z5, hx5, hnd5⟩ := hcut
                            obtain ⟨kb, tb, Ab, mb, cb, rfl, rfl, rfl⟩ := hnd5.form
                            have hL5 := HL1.out.call hg hq5 hs5
                            obtain ⟨m0, m1, m2, mf, z0, z1, z2, zf⟩ := hL5.facts
                            have k0 : wc.cell? ⟨wL.heap.size, 0, none⟩ = some (.int .i64 kb) := cell_of_row _ _ 0 _ _ (0, 0) hx5
                            have k1 : wc.cell? ⟨wL.heap.size, 1, none⟩ = some (.string tb) := cell_of_row _ _ 1 _ _ (0, 0) hx5
                            have k2 : wc.cell? ⟨wL.heap.size, 2, none⟩ = some (.slice Ab mb cb) := cell_of_row _ _ 2 _ _ (0, 0) hx5
                            obtain ⟨vs, hv1, hv2, hvx, hv3⟩ := hL5.items
                            have hxl5 := heap_lt hx5
                            have hsL5 := hL5.size
                            have hszL := hs5.size
                            have HV := Lib.hid hv2
                            have HNX := Lib.hid (heap_lt HL1.out.nb_)
                            have HOL := Lib.hid HL1.out.items.own_lt
                            have HL5 := Lib.hid hL5
                            have HN5 := Lib.hid (hnd5.keep (Q := fun q => wL.heap.size ≤ q) (Nat.le_refl _) fun q hq _ => ⟨by omega, fun _ => rfl⟩)
                            have HZL := Lib.hid hszL
                            clear hq5 hs5 hx5 hnd5 hL5 hv1 hv2 hvx hv3 z0 z1 z2 zf m0 m1 hszL
                            go_wp2_with ((at_builtin; refine wpList_append_own_at _ rfl _ _ 64 rfl (W.heap.size + 1) 66 i0 _ 3 48 Try.underlying64 hi0 hz0 hz1 hz2 rfl (by decide) _ _ _ rfl (HV.out.alloc _) ⟨wc.heap.size, 0, none⟩ 1 1 [.int .i64 kb, .string tb, .slice Ab mb cb] rfl rfl (Lx.row_new _ [.int .i64 kb, .string tb, .slice Ab mb cb] _ _ rfl) (by simp [Value.oneCell']) (by unfold maxLen; omega) (by omega) (by simp; omega) ?_))
                            intro v' w6 hown4 hgrow4 _ hat4
                            obtain ⟨gq, cp', rfl, hat5⟩ := own_slice hown4 (by omega) hat4
                            have h6 := HL5.out.snoc hg (lo := wL.heap.size) HNX.out HZL.out (fun k hk => (HOL.out k hk).1) HN5.out (fun vs2 hv2 => by rw [owns_uniq hv2 HV.out]; exact hown4) hgrow4 (by rw [heap_size_alloc']; exact hat5)
                            have hnb4 := (hgrow4.block nb (by have := heap_lt HL5.out.nb_; simp; omega) (fun e => by have := (HL5.out.items.own_lt nb e.symm).2.2; omega)).trans ((heap_alloc_old wc _ (heap_lt HL5.out.nb_)).trans HL5.out.nb_)
                            have u2 : w6.cell? ⟨nb, 2, none⟩ = some (.slice A acc.length cp) := cell_of_row _ _ 2 _ _ (0, 0) hnb4
                            have uf := frozen_qrow hnb4
                            have H6 := Lib.hid h6
                            clear h6 hnb4 hown4 hgrow4 hat4 hat5
                            go_wp2
                            go_roundw
                            case rel => exact ⟨f'', sufI ts j1, cp', some ⟨gq, 0, none⟩, acc ++ [sufT ts j1 t1], by omega, HJS.out, by have := HJ2.out; simp; omega, H2b.out, H6.out⟩
                            case measure =>
                              rw [hms.out, show atOf _ g = sufI ts j1 by rw [atOf, H6.out.par.facts.2.1]; simp]
                              have := HJ2.out
                              have := HJS.out
                              omega
                        · have K63 := fun w (hw : QAt w g r ts cap j1 d (0, 0, 0)) => isq_any w g r ts cap j1 d (0, 0, 0) 63 hw HJ1.out hn
                          simp only [sg0, h63] at K63
                          have HK63 := Lib.hid K63
                          clear K63
                          have K42 := fun w (hw : QAt w g r ts cap j1 d (0, 0, 0)) => isq_any w g r ts cap j1 d (0, 0, 0) 42 hw HJ1.out hn
                          simp only [sg0, h42] at K42
                          have HK42 := Lib.hid K42
                          clear K42
                          have K43 := fun w (hw : QAt w g r ts cap j1 d (0, 0, 0)) => isq_any w g r ts cap j1 d (0, 0, 0) 43 hw HJ1.out hn
                          simp only [sg0, h43] at K43
                          have HK43 := Lib.hid K43
                          clear K43
                          have HSK := Lib.hid (show sufK ts j1 = 5 by unfold sufK; rw [if_neg (by rw [h42]; decide), if_neg (by rw [h43]; decide), if_pos h63])
                          clear h42 h43 h63
                          go_wp2_with fail
                          refine (HK63.out _ HAT.out.par).mono ?_
                          rintro e w2 ⟨rfl, b2⟩
                          have HA2 := Lib.hid (HAT.out.below b2)
                          clear b2
                          go_wp2_with fail
                          refine (HK42.out _ HA2.out.par).mono ?_
                          rintro e w3 ⟨rfl, b3⟩
                          have HA3 := Lib.hid (HA2.out.below b3)
                          clear b3
                          go_wp2_with fail
                          refine (HK43.out _ HA3.out.par).mono ?_
                          rintro e w4 ⟨rfl, b4⟩
                          have HA4 := Lib.hid (HA3.out.below b4)
                          clear b4
                          go_upto_if 102 with fail
                          go_cut [7] (fun _ wx => Atm wL g r ts cap d (sufT ts j1 t1) (sufI ts j1) wx)
                          case first =>
                            obtain ⟨hq4, hs4, x4, y4, z4, hx4, hnd4⟩ := HA4.out
                            obtain ⟨kc, tc, Ac, mc, cc, rfl, rfl, rfl⟩ := hnd4.form
                            obtain ⟨c0, c1, c2, c3, c4, c5, cf⟩ := hq4.facts
                            have k0 : w4.cell? ⟨wL.heap.size, 0, none⟩ = some (.int .i64 kc) := cell_of_row _ _ 0 _ _ (0, 0) hx4
                            have k1 : w4.cell? ⟨wL.heap.size, 1, none⟩ = some (.string tc) := cell_of_row _ _ 1 _ _ (0, 0) hx4
                            have k2 : w4.cell? ⟨wL.heap.size, 2, none⟩ = some (.slice Ac mc cc) := cell_of_row _ _ 2 _ _ (0, 0) hx4
                            have kf := frozen_qrow hx4
                            have hj4 := HJ1.out
                            have hxl4 := heap_lt hx4
                            have hA5 : Atm wL g r ts cap d t1 (j1 + 1) (w4.setCell ⟨g, 1, none⟩ (.int .i64 ((j1 : Int) + 1))) ∧ (w4.setCell ⟨g, 1, none⟩ (.int .i64 ((j1 : Int) + 1))).heap[wL.heap.size]? = some (.cells #[.int .i64 kc, .string tc, .slice Ac mc cc] 66 (0, 0)) ∧ Nd (fun q => wL.heap.size + 1 ≤ q) (w4.setCell ⟨g, 1, none⟩ (.int .i64 ((j1 : Int) + 1))) t1 (.int .i64 kc) (.string tc) (.slice Ac mc cc) := by
                              have hx5 := (Lx.set_keep (b := g) w4 1 (.int .i64 ((j1 : Int) + 1)) (show g ≠ wL.heap.size by have := HGL.out; omega)).trans hx4
                              have hn5 := hnd4.keep (W' := w4.setCell ⟨g, 1, none⟩ (.int .i64 ((j1 : Int) + 1))) (Q := fun q => wL.heap.size + 1 ≤ q) (by simp [World.setCell]) fun q hq _ => ⟨hq, fun k => World.cell?_setCell_other w4 _ _ _ (fun e => by have := HGL.out; injection e with e; omega)⟩
                              exact ⟨⟨hq4.set 1 (.int .i64 ((j1 : Int) + 1)) (j1 + 1) d (0, 0, 0) (by rw [show ((j1 : Int) + 1) = ((j1 + 1 : Nat) : Int) by omega]; rfl), hs4.setCell (p := ⟨g, 1, none⟩) (.inl rfl) _, _, _, _, hx5, hn5⟩, hx5, hn5⟩
                            have hW := hA5.1.wrap hA5.2.1 hA5.2.2 HGL.out 5
                            rw [show (w4.setCell ⟨g, 1, none⟩ (.int .i64 ((j1 : Int) + 1))).heap.size = w4.heap.size by simp [World.setCell]] at hW
                            have HW := Lib.hid hW
                            clear hW
                            have hx5 := hA5.2.1
                            have l0 := cell_of_row _ _ 0 _ _ (0, 0) hx5
                            have l1 := cell_of_row _ _ 1 _ _ (0, 0) hx5
                            have l2 := cell_of_row _ _ 2 _ _ (0, 0) hx5
                            have lf := frozen_qrow hx5
                            have hx6 := fun o : Obj => (heap_alloc_old (w4.setCell ⟨g, 1, none⟩ (.int .i64 ((j1 : Int) + 1))) o (heap_lt hx5)).trans hx5
                            have n0 := fun o : Obj => cell_of_row _ _ 0 _ _ (0, 0) (hx6 o)
                            have n1 := fun o : Obj => cell_of_row _ _ 1 _ _ (0, 0) (hx6 o)
                            have n2 := fun o : Obj => cell_of_row _ _ 2 _ _ (0, 0) (hx6 o)
                            have nf := fun o : Obj => frozen_qrow (hx6 o)
                            clear hA5 hq4 hs4 hx4 hnd4 hx5 hx6
                            go_wp2
                            go_meet
                            case rel => exact (by rw [show sufT ts j1 t1 = around 5 t1 by unfold sufT; rw [HSK.out]; rfl, show sufI ts j1 = j1 + 1 by unfold sufI; rw [HSK.out]; rfl]; exact HW.out)
                          case rest =>
                            obtain ⟨hq5, hs5, x5, y5, z5, hx5, hnd5⟩ := hcut
                            obtain ⟨kb, tb, Ab, mb, cb, rfl, rfl, rfl⟩ := hnd5.form
                            have hL5 := HL1.out.call hg hq5 hs5
                            obtain ⟨m0, m1, m2, mf, z0, z1, z2, zf⟩ := hL5.facts
                            have k0 : wc.cell? ⟨wL.heap.size, 0, none⟩ = some (.int .i64 kb) := cell_of_row _ _ 0 _ _ (0, 0) hx5
                            have k1 : wc.cell? ⟨wL.heap.size, 1, none⟩ = some (.string tb) := cell_of_row _ _ 1 _ _ (0, 0) hx5
                            have k2 : wc.cell? ⟨wL.heap.size, 2, none⟩ = some (.slice Ab mb cb) := cell_of_row _ _ 2 _ _ (0, 0) hx5
                            obtain ⟨vs, hv1, hv2, hvx, hv3⟩ := hL5.items
                            have hxl5 := heap_lt hx5
                            have hsL5 := hL5.size
                            have hszL := hs5.size
                            have HV := Lib.hid hv2
                            have HNX := Lib.hid (heap_lt HL1.out.nb_)
                            have HOL := Lib.hid HL1.out.items.own_lt
                            have HL5 := Lib.hid hL5
                            have HN5 := Lib.hid (hnd5.keep (Q := fun q => wL.heap.size ≤ q) (Nat.le_refl _) fun q hq _ => ⟨by omega, fun _ => rfl⟩)
                            have HZL := Lib.hid hszL
                            clear hq5 hs5 hx5 hnd5 hL5 hv1 hv2 hvx hv3 z0 z1 z2 zf m0 m1 hszL
                            go_wp2_with ((at_builtin; refine wpList_append_own_at _ rfl _ _ 64 rfl (W.heap.size + 1) 66 i0 _ 3 48 Try.underlying64 hi0 hz0 hz1 hz2 rfl (by decide) _ _ _ rfl (HV.out.alloc _) ⟨wc.heap.size, 0, none⟩ 1 1 [.int .i64 kb, .string tb, .slice Ab mb cb] rfl rfl (Lx.row_new _ [.int .i64 kb, .string tb, .slice Ab mb cb] _ _ rfl) (by simp [Value.oneCell']) (by unfold maxLen; omega) (by omega) (by simp; omega) ?_))
                            intro v' w6 hown4 hgrow4 _ hat4
                            obtain ⟨gq, cp', rfl, hat5⟩ := own_slice hown4 (by omega) hat4
                            have h6 := HL5.out.snoc hg (lo := wL.heap.size) HNX.out HZL.out (fun k hk => (HOL.out k hk).1) HN5.out (fun vs2 hv2 => by rw [owns_uniq hv2 HV.out]; exact hown4) hgrow4 (by rw [heap_size_alloc']; exact hat5)
                            have hnb4 := (hgrow4.block nb (by have := heap_lt HL5.out.nb_; simp; omega) (fun e => by have := (HL5.out.items.own_lt nb e.symm).2.2; omega)).trans ((heap_alloc_old wc _ (heap_lt HL5.out.nb_)).trans HL5.out.nb_)
                            have u2 : w6.cell? ⟨nb, 2, none⟩ = some (.slice A acc.length cp) := cell_of_row _ _ 2 _ _ (0, 0) hnb4
                            have uf := frozen_qrow hnb4
                            have H6 := Lib.hid h6
                            clear h6 hnb4 hown4 hgrow4 hat4 hat5
                            go_wp2
                            go_roundw
                            case rel => exact ⟨f'', sufI ts j1, cp', some ⟨gq, 0, none⟩, acc ++ [sufT ts j1 t1], by omega, HJS.out, by have := HJ2.out; simp; omega, H2b.out, H6.out⟩
                            case measure =>
                              rw [hms.out, show atOf _ g = sufI ts j1 by rw [atOf, H6.out.par.facts.2.1]; simp]
                              have := HJ2.out
                              have := HJS.out
                              omega
                      · have h63 := sg_other (b := 63) h43 (by decide)
                        have K63 := fun w (hw : QAt w g r ts cap j1 d (0, 0, 0)) => isq_any w g r ts cap j1 d (0, 0, 0) 63 hw HJ1.out hn
                        simp only [sg0, h63] at K63
                        have HK63 := Lib.hid K63
                        clear K63
                        have K42 := fun w (hw : QAt w g r ts cap j1 d (0, 0, 0)) => isq_any w g r ts cap j1 d (0, 0, 0) 42 hw HJ1.out hn
                        simp only [sg0, h42] at K42
                        have HK42 := Lib.hid K42
                        clear K42
                        have K43 := fun w (hw : QAt w g r ts cap j1 d (0, 0, 0)) => isq_any w g r ts cap j1 d (0, 0, 0) 43 hw HJ1.out hn
                        simp only [sg0, h43] at K43
                        have HK43 := Lib.hid K43
                        clear K43
                        have HSK := Lib.hid (show sufK ts j1 = 7 by unfold sufK; rw [if_neg (by rw [h42]; decide), if_pos h43])
                        clear h42 h43 h63
                        go_wp2_with fail
                        refine (HK63.out _ HAT.out.par).mono ?_
                        rintro e w2 ⟨rfl, b2⟩
                        have HA2 := Lib.hid (HAT.out.below b2)
                        clear b2
                        go_wp2_with fail
                        refine (HK42.out _ HA2.out.par).mono ?_
                        rintro e w3 ⟨rfl, b3⟩
                        have HA3 := Lib.hid (HA2.out.below b3)
                        clear b3
                        go_wp2_with fail
                        refine (HK43.out _ HA3.out.par).mono ?_
                        rintro e w4 ⟨rfl, b4⟩
                        have HA4 := Lib.hid (HA3.out.below b4)
                        clear b4
                        go_upto_if 102 with fail
                        go_cut [7] (fun _ wx => Atm wL g r ts cap d (sufT ts j1 t1) (sufI ts j1) wx)
                        case first =>
                          obtain ⟨hq4, hs4, x4, y4, z4, hx4, hnd4⟩ := HA4.out
                          obtain ⟨kc, tc, Ac, mc, cc, rfl, rfl, rfl⟩ := hnd4.form
                          obtain ⟨c0, c1, c2, c3, c4, c5, cf⟩ := hq4.facts
                          have k0 : w4.cell? ⟨wL.heap.size, 0, none⟩ = some (.int .i64 kc) := cell_of_row _ _ 0 _ _ (0, 0) hx4
                          have k1 : w4.cell? ⟨wL.heap.size, 1, none⟩ = some (.string tc) := cell_of_row _ _ 1 _ _ (0, 0) hx4
                          have k2 : w4.cell? ⟨wL.heap.size, 2, none⟩ = some (.slice Ac mc cc) := cell_of_row _ _ 2 _ _ (0, 0) hx4
                          have kf := frozen_qrow hx4
                          have hj4 := HJ1.out
                          have hxl4 := heap_lt hx4
                          have hA5 : Atm wL g r ts cap d t1 (j1 + 1) (w4.setCell ⟨g, 1, none⟩ (.int .i64 ((j1 : Int) + 1))) ∧ (w4.setCell ⟨g, 1, none⟩ (.int .i64 ((j1 : Int) + 1))).heap[wL.heap.size]? = some (.cells #[.int .i64 kc, .string tc, .slice Ac mc cc] 66 (0, 0)) ∧ Nd (fun q => wL.heap.size + 1 ≤ q) (w4.setCell ⟨g, 1, none⟩ (.int .i64 ((j1 : Int) + 1))) t1 (.int .i64 kc) (.string tc) (.slice Ac mc cc) := by
                            have hx5 := (Lx.set_keep (b := g) w4 1 (.int .i64 ((j1 : Int) + 1)) (show g ≠ wL.heap.size by have := HGL.out; omega)).trans hx4
                            have hn5 := hnd4.keep (W' := w4.setCell ⟨g, 1, none⟩ (.int .i64 ((j1 : Int) + 1))) (Q := fun q => wL.heap.size + 1 ≤ q) (by simp [World.setCell]) fun q hq _ => ⟨hq, fun k => World.cell?_setCell_other w4 _ _ _ (fun e => by have := HGL.out; injection e with e; omega)⟩
                            exact ⟨⟨hq4.set 1 (.int .i64 ((j1 : Int) + 1)) (j1 + 1) d (0, 0, 0) (by rw [show ((j1 : Int) + 1) = ((j1 + 1 : Nat) : Int) by omega]; rfl), hs4.setCell (p := ⟨g, 1, none⟩) (.inl rfl) _, _, _, _, hx5, hn5⟩, hx5, hn5⟩
                          have hW := hA5.1.wrap hA5.2.1 hA5.2.2 HGL.out 7
                          rw [show (w4.setCell ⟨g, 1, none⟩ (.int .i64 ((j1 : Int) + 1))).heap.size = w4.heap.size by simp [World.setCell]] at hW
                          have HW := Lib.hid hW
                          clear hW
                          have hx5 := hA5.2.1
                          have l0 := cell_of_row _ _ 0 _ _ (0, 0) hx5
                          have l1 := cell_of_row _ _ 1 _ _ (0, 0) hx5
                          have l2 := cell_of_row _ _ 2 _ _ (0, 0) hx5
                          have lf := frozen_qrow hx5
                          have hx6 := fun o : Obj => (heap_alloc_old (w4.setCell ⟨g, 1, none⟩ (.int .i64 ((j1 : Int) + 1))) o (heap_lt hx5)).trans hx5
                          have n0 := fun o : Obj => cell_of_row _ _ 0 _ _ (0, 0) (hx6 o)
                          have n1 := fun o : Obj => cell_of_row _ _ 1 _ _ (0, 0) (hx6 o)
                          have n2 := fun o : Obj => cell_of_row _ _ 2 _ _ (0, 0) (hx6 o)
                          have nf := fun o : Obj => frozen_qrow (hx6 o)
                          clear hA5 hq4 hs4 hx4 hnd4 hx5 hx6
                          go_wp2
                          go_meet
                          case rel => exact (by rw [show sufT ts j1 t1 = around 7 t1 by unfold sufT; rw [HSK.out]; rfl, show sufI ts j1 = j1 + 1 by unfold sufI; rw [HSK.out]; rfl]; exact HW.out)
                        case rest =>
                          obtain ⟨hq5, hs5, x5, y5, z5, hx5, hnd5⟩ := hcut
                          obtain ⟨kb, tb, Ab, mb, cb, rfl, rfl, rfl⟩ := hnd5.form
                          have hL5 := HL1.out.call hg hq5 hs5
                          obtain ⟨m0, m1, m2, mf, z0, z1, z2, zf⟩ := hL5.facts
                          have k0 : wc.cell? ⟨wL.heap.size, 0, none⟩ = some (.int .i64 kb) := cell_of_row _ _ 0 _ _ (0, 0) hx5
                          have k1 : wc.cell? ⟨wL.heap.size, 1, none⟩ = some (.string tb) := cell_of_row _ _ 1 _ _ (0, 0) hx5
                          have k2 : wc.cell? ⟨wL.heap.size, 2, none⟩ = some (.slice Ab mb cb) := cell_of_row _ _ 2 _ _ (0, 0) hx5
                          obtain ⟨vs, hv1, hv2, hvx, hv3⟩ := hL5.items
                          have hxl5 := heap_lt hx5
                          have hsL5 := hL5.size
                          have hszL := hs5.size
                          have HV := Lib.hid hv2
                          have HNX := Lib.hid (heap_lt HL1.out.nb_)
                          have HOL := Lib.hid HL1.out.items.own_lt
                          have HL5 := Lib.hid hL5
                          have HN5 := Lib.hid (hnd5.keep (Q := fun q => wL.heap.size ≤ q) (Nat.le_refl _) fun q hq _ => ⟨by omega, fun _ => rfl⟩)
                          have HZL := Lib.hid hszL
                          clear hq5 hs5 hx5 hnd5 hL5 hv1 hv2 hvx hv3 z0 z1 z2 zf m0 m1 hszL
                          go_wp2_with ((at_builtin; refine wpList_append_own_at _ rfl _ _ 64 rfl (W.heap.size + 1) 66 i0 _ 3 48 Try.underlying64 hi0 hz0 hz1 hz2 rfl (by decide) _ _ _ rfl (HV.out.alloc _) ⟨wc.heap.size, 0, none⟩ 1 1 [.int .i64 kb, .string tb, .slice Ab mb cb] rfl rfl (Lx.row_new _ [.int .i64 kb, .string tb, .slice Ab mb cb] _ _ rfl) (by simp [Value.oneCell']) (by unfold maxLen; omega) (by omega) (by simp; omega) ?_))
                          intro v' w6 hown4 hgrow4 _ hat4
                          obtain ⟨gq, cp', rfl, hat5⟩ := own_slice hown4 (by omega) hat4
                          have h6 := HL5.out.snoc hg (lo := wL.heap.size) HNX.out HZL.out (fun k hk => (HOL.out k hk).1) HN5.out (fun vs2 hv2 => by rw [owns_uniq hv2 HV.out]; exact hown4) hgrow4 (by rw [heap_size_alloc']; exact hat5)
                          have hnb4 := (hgrow4.block nb (by have := heap_lt HL5.out.nb_; simp; omega) (fun e => by have := (HL5.out.items.own_lt nb e.symm).2.2; omega)).trans ((heap_alloc_old wc _ (heap_lt HL5.out.nb_)).trans HL5.out.nb_)
                          have u2 : w6.cell? ⟨nb, 2, none⟩ = some (.slice A acc.length cp) := cell_of_row _ _ 2 _ _ (0, 0) hnb4
                          have uf := frozen_qrow hnb4
                          have H6 := Lib.hid h6
                          clear h6 hnb4 hown4 hgrow4 hat4 hat5
                          go_wp2
                          go_roundw
                          case rel => exact ⟨f'', sufI ts j1, cp', some ⟨gq, 0, none⟩, acc ++ [sufT ts j1 t1], by omega, HJS.out, by have := HJ2.out; simp; omega, H2b.out, H6.out⟩
                          case measure =>
                            rw [hms.out, show atOf _ g = sufI ts j1 by rw [atOf, H6.out.par.facts.2.1]; simp]
                            have := HJ2.out
                            have := HJS.out
                            omega
                    · have h43 := sg_other (b := 43) h42 (by decide)
                      have h63 := sg_other (b := 63) h42 (by decide)
                      have K63 := fun w (hw : QAt w g r ts cap j1 d (0, 0, 0)) => isq_any w g r ts cap j1 d (0, 0, 0) 63 hw HJ1.out hn
                      simp only [sg0, h63] at K63
                      have HK63 := Lib.hid K63
                      clear K63
                      have K42 := fun w (hw : QAt w g r ts cap j1 d (0, 0, 0)) => isq_any w g r ts cap j1 d (0, 0, 0) 42 hw HJ1.out hn
                      simp only [sg0, h42] at K42
                      have HK42 := Lib.hid K42
                      clear K42
                      have K43 := fun w (hw : QAt w g r ts cap j1 d (0, 0, 0)) => isq_any w g r ts cap j1 d (0, 0, 0) 43 hw HJ1.out hn
                      simp only [sg0, h43] at K43
                      have HK43 := Lib.hid K43
                      clear K43
                      have HSK := Lib.hid (show sufK ts j1 = 6 by unfold sufK; rw [if_pos h42])
                      clear h42 h43 h63
                      go_wp2_with fail
                      refine (HK63.out _ HAT.out.par).mono ?_
                      rintro e w2 ⟨rfl, b2⟩
                      have HA2 := Lib.hid (HAT.out.below b2)
                      clear b2
                      go_wp2_with fail
                      refine (HK42.out _ HA2.out.par).mono ?_
                      rintro e w3 ⟨rfl, b3⟩
                      have HA3 := Lib.hid (HA2.out.below b3)
                      clear b3
                      go_wp2_with fail
                      refine (HK43.out _ HA3.out.par).mono ?_
                      rintro e w4 ⟨rfl, b4⟩
                      have HA4 := Lib.hid (HA3.out.below b4)
                      clear b4
                      go_upto_if 102 with fail
                      go_cut [7] (fun _ wx => Atm wL g r ts cap d (sufT ts j1 t1) (sufI ts j1) wx)
                      case first =>
                        obtain ⟨hq4, hs4, x4, y4, z4, hx4, hnd4⟩ := HA4.out
                        obtain ⟨kc, tc, Ac, mc, cc, rfl, rfl, rfl⟩ := hnd4.form
                        obtain ⟨c0, c1, c2, c3, c4, c5, cf⟩ := hq4.facts
                        have k0 : w4.cell? ⟨wL.heap.size, 0, none⟩ = some (.int .i64 kc) := cell_of_row _ _ 0 _ _ (0, 0) hx4
                        have k1 : w4.cell? ⟨wL.heap.size, 1, none⟩ = some (.string tc) := cell_of_row _ _ 1 _ _ (0, 0) hx4
                        have k2 : w4.cell? ⟨wL.heap.size, 2, none⟩ = some (.slice Ac mc cc) := cell_of_row _ _ 2 _ _ (0, 0) hx4
                        have kf := frozen_qrow hx4
                        have hj4 := HJ1.out
                        have hxl4 := heap_lt hx4
                        have hA5 : Atm wL g r ts cap d t1 (j1 + 1) (w4.setCell ⟨g, 1, none⟩ (.int .i64 ((j1 : Int) + 1))) ∧ (w4.setCell ⟨g, 1, none⟩ (.int .i64 ((j1 : Int) + 1))).heap[wL.heap.size]? = some (.cells #[.int .i64 kc, .string tc, .slice Ac mc cc] 66 (0, 0)) ∧ Nd (fun q => wL.heap.size + 1 ≤ q) (w4.setCell ⟨g, 1, none⟩ (.int .i64 ((j1 : Int) + 1))) t1 (.int .i64 kc) (.string tc) (.slice Ac mc cc) := by
                          have hx5 := (Lx.set_keep (b := g) w4 1 (.int .i64 ((j1 : Int) + 1)) (show g ≠ wL.heap.size by have := HGL.out; omega)).trans hx4
                          have hn5 := hnd4.keep (W' := w4.setCell ⟨g, 1, none⟩ (.int .i64 ((j1 : Int) + 1))) (Q := fun q => wL.heap.size + 1 ≤ q) (by simp [World.setCell]) fun q hq _ => ⟨hq, fun k => World.cell?_setCell_other w4 _ _ _ (fun e => by have := HGL.out; injection e with e; omega)⟩
                          exact ⟨⟨hq4.set 1 (.int .i64 ((j1 : Int) + 1)) (j1 + 1) d (0, 0, 0) (by rw [show ((j1 : Int) + 1) = ((j1 + 1 : Nat) : Int) by omega]; rfl), hs4.setCell (p := ⟨g, 1, none⟩) (.inl rfl) _, _, _, _, hx5, hn5⟩, hx5, hn5⟩
                        have hW := hA5.1.wrap hA5.2.1 hA5.2.2 HGL.out 6
                        rw [show (w4.setCell ⟨g, 1, none⟩ (.int .i64 ((j1 : Int) + 1))).heap.size = w4.heap.size by simp [World.setCell]] at hW
                        have HW := Lib.hid hW
                        clear hW
                        have hx5 := hA5.2.1
                        have l0 := cell_of_row _ _ 0 _ _ (0, 0) hx5
                        have l1 := cell_of_row _ _ 1 _ _ (0, 0) hx5
                        have l2 := cell_of_row _ _ 2 _ _ (0, 0) hx5
                        have lf := frozen_qrow hx5
                        have hx6 := fun o : Obj => (heap_alloc_old (w4.setCell ⟨g, 1, none⟩ (.int .i64 ((j1 : Int) + 1))) o (heap_lt hx5)).trans hx5
                        have n0 := fun o : Obj => cell_of_row _ _ 0 _ _ (0, 0) (hx6 o)
                        have n1 := fun o : Obj => cell_of_row _ _ 1 _ _ (0, 0) (hx6 o)
                        have n2 := fun o : Obj => cell_of_row _ _ 2 _ _ (0, 0) (hx6 o)
                        have nf := fun o : Obj => frozen_qrow (hx6 o)
                        clear hA5 hq4 hs4 hx4 hnd4 hx5 hx6
                        go_wp2
                        go_meet
                        case rel => exact (by rw [show sufT ts j1 t1 = around 6 t1 by unfold sufT; rw [HSK.out]; rfl, show sufI ts j1 = j1 + 1 by unfold sufI; rw [HSK.out]; rfl]; exact HW.out)
                      case rest =>
                        obtain ⟨hq5, hs5, x5, y5, z5, hx5, hnd5⟩ := hcut
                        obtain ⟨kb, tb, Ab, mb, cb, rfl, rfl, rfl⟩ := hnd5.form
                        have hL5 := HL1.out.call hg hq5 hs5
                        obtain ⟨m0, m1, m2, mf, z0, z1, z2, zf⟩ := hL5.facts
                        have k0 : wc.cell? ⟨wL.heap.size, 0, none⟩ = some (.int .i64 kb) := cell_of_row _ _ 0 _ _ (0, 0) hx5
                        have k1 : wc.cell? ⟨wL.heap.size, 1, none⟩ = some (.string tb) := cell_of_row _ _ 1 _ _ (0, 0) hx5
                        have k2 : wc.cell? ⟨wL.heap.size, 2, none⟩ = some (.slice Ab mb cb) := cell_of_row _ _ 2 _ _ (0, 0) hx5
                        obtain ⟨vs, hv1, hv2, hvx, hv3⟩ := hL5.items
                        have hxl5 := heap_lt hx5
                        have hsL5 := hL5.size
                        have hszL := hs5.size
                        have HV := Lib.hid hv2
                        have HNX := Lib.hid (heap_lt HL1.out.nb_)
                        have HOL := Lib.hid HL1.out.items.own_lt
                        have HL5 := Lib.hid hL5
                        have HN5 := Lib.hid (hnd5.keep (Q := fun q => wL.heap.size ≤ q) (Nat.le_refl _) fun q hq _ => ⟨by omega, fun _ => rfl⟩)
                        have HZL := Lib.hid hszL
                        clear hq5 hs5 hx5 hnd5 hL5 hv1 hv2 hvx hv3 z0 z1 z2 zf m0 m1 hszL
                        go_wp2_with ((at_builtin; refine wpList_append_own_at _ rfl _ _ 64 rfl (W.heap.size + 1) 66 i0 _ 3 48 Try.underlying64 hi0 hz0 hz1 hz2 rfl (by decide) _ _ _ rfl (HV.out.alloc _) ⟨wc.heap.size, 0, none⟩ 1 1 [.int .i64 kb, .string tb, .slice Ab mb cb] rfl rfl (Lx.row_new _ [.int .i64 kb, .string tb, .slice Ab mb cb] _ _ rfl) (by simp [Value.oneCell']) (by unfold maxLen; omega) (by omega) (by simp; omega) ?_))
                        intro v' w6 hown4 hgrow4 _ hat4
                        obtain ⟨gq, cp', rfl, hat5⟩ := own_slice hown4 (by omega) hat4
                        have h6 := HL5.out.snoc hg (lo := wL.heap.size) HNX.out HZL.out (fun k hk => (HOL.out k hk).1) HN5.out (fun vs2 hv2 => by rw [owns_uniq hv2 HV.out]; exact hown4) hgrow4 (by rw [heap_size_alloc']; exact hat5)
                        have hnb4 := (hgrow4.block nb (by have := heap_lt HL5.out.nb_; simp; omega) (fun e => by have := (HL5.out.items.own_lt nb e.symm).2.2; omega)).trans ((heap_alloc_old wc _ (heap_lt HL5.out.nb_)).trans HL5.out.nb_)
                        have u2 : w6.cell? ⟨nb, 2, none⟩ = some (.slice A acc.length cp) := cell_of_row _ _ 2 _ _ (0, 0) hnb4
                        have uf := frozen_qrow hnb4
                        have H6 := Lib.hid h6
                        clear h6 hnb4 hown4 hgrow4 hat4 hat5
                        go_wp2
                        go_roundw
                        case rel => exact ⟨f'', sufI ts j1, cp', some ⟨gq, 0, none⟩, acc ++ [sufT ts j1 t1], by omega, HJS.out, by have := HJ2.out; simp; omega, H2b.out, H6.out⟩
                        case measure =>
                          rw [hms.out, show atOf _ g = sufI ts j1 by rw [atOf, H6.out.par.facts.2.1]; simp]
                          have := HJ2.out
                          have := HJS.out
                          omega
                · exact absurd h7 (by unfold Res.bad; simp)
  case rest =>
    obtain ⟨A, cp, acc, ⟨j, rfl, hL⟩ | ⟨l, c, k, j, d', rfl, hj, hL⟩⟩ := hcut
    · obtain ⟨m0, m1, m2, mf, z0, z1, z2, zf⟩ := hL.facts
      have HP := Lib.hid hL.par
      have HS := Lib.hid hL.sep
      have HRES := Lib.hid hL.res
      by_cases h1 : acc.length = 1
      · obtain ⟨t', rfl⟩ := List.length_eq_one_iff.1 h1
        obtain ⟨q, a, b, c', rfl, hcp, k0, k1, k2, hnd⟩ := hL.items.one
        obtain ⟨ka, ta, Aa, na, ca, rfl, rfl, rfl⟩ := hnd.form
        have HN := Lib.hid (hnd.keep (Q := fun q => W.heap.size + 1 ≤ q) (Nat.le_refl _) fun q hq _ => ⟨hq.1, fun _ => rfl⟩)
        clear hL hnd h1
        go_wp2
        exact bodyPost_ret (results_cell_row rfl _ _ W.heap.size 66 _ (0, 0) _ rfl (qres_done HRES.out _ _ _) Try.underlying66 rfl rfl) rfl (q_ok HP.out hg HS.out HN.out)
      · have e1 : ((acc.length : Int) == 1) = false := by rw [beq_eq_false_iff_ne]; omega
        have hjn : joined 3 acc = .node 3 [] acc := by
          rcases acc with _ | ⟨a, _ | ⟨b, l⟩⟩
          · rfl
          · simp at h1
          · rfl
        have HJN := Lib.hid hjn
        have HN := Lib.hid ((hL.items.node 3).keep (Q := fun q => W.heap.size + 1 ≤ q) (Nat.le_refl _) fun q hq _ => ⟨hq.1, fun _ => rfl⟩)
        clear hjn
        clear hL h1
        go_wp2
        exact bodyPost_ret (results_cell_row rfl _ _ W.heap.size 66 _ (0, 0) _ rfl (qres_done HRES.out _ _ _) Try.underlying66 rfl rfl) rfl (by rw [HJN.out]; exact q_ok HP.out hg HS.out HN.out)
    · obtain ⟨m0, m1, m2, mf, z0, z1, z2, zf⟩ := hL.facts
      have HP := Lib.hid hL.par
      have HS := Lib.hid hL.sep
      have HRES := Lib.hid hL.res
      have HJ := Lib.hid hj
      clear hj
      by_cases h1 : acc.length = 1
      · obtain ⟨t', rfl⟩ := List.length_eq_one_iff.1 h1
        obtain ⟨q, a, b, c', rfl, hcp, k0, k1, k2, hnd⟩ := hL.items.one
        obtain ⟨ka, ta, Aa, na, ca, rfl, rfl, rfl⟩ := hnd.form
        clear hL hnd h1
        go_wp2
        exact bodyPost_ret (results_cell_row rfl _ _ W.heap.size 66 _ (0, 0) _ rfl (qres_done HRES.out _ _ _) Try.underlying66 rfl rfl) rfl (q_no (n := ka) (tx := ta) (A := Aa) (m := na) (cp := ca) HP.out HJ.out hg HS.out)
      · have e1 : ((acc.length : Int) == 1) = false := by rw [beq_eq_false_iff_ne]; omega
        clear hL h1
        go_wp2
        exact bodyPost_ret (results_cell_row rfl _ _ W.heap.size 66 _ (0, 0) _ rfl (qres_done HRES.out _ _ _) Try.underlying66 rfl rfl) rfl (q_no (n := 3) HP.out HJ.out hg HS.out)
end Go.Proofs.Ytppdemdjlhdfcaa.Sx

namespace Go.Proofs.Ytppdemdjlhdfcaa.Sx
open Go.RowKit
open Lx (Tk Toks)
set_option maxRecDepth 100000

/-- The plain parser's alt and row are the plain ones, at every fuel. -/
theorem qknot (ts : List Tk) (hE : Ended ts) (hK : Kinds ts) (hn : ts.length ≤ 4096) : ∀ f : Nat, QCtr 19 ts (pAlt ts f) ∧ QCtr 35 ts (pRow ts f) := by
  intro f
  induction f using Nat.strongRecOn with
  | ind f ih =>
    cases f with
    | zero =>
      refine ⟨?_, ?_⟩
      · intro W g r cap i d R hp hi hd hR; rw [pAlt] at hR; cases hR
      · intro W g r cap i d R hp hi hd hR; rw [pRow] at hR; cases hR
    | succ f => exact ⟨altq_any ts hE hn f fun f' h => (ih f' (by omega)).2, rowq_any ts hE hK hn f fun f' h => (ih f' (by omega)).1⟩
end Go.Proofs.Ytppdemdjlhdfcaa.Sx

namespace Go.Proofs.Ytppdemdjlhdfcaa.Sx
open Go.RowKit
open Lx (Tk Toks heap_lt own_block)
set_option maxRecDepth 100000

/-- A row of rules of the call's own, that may still grow: no node stands in the row itself, nor in block x. -/
def QRItems (base x : Nat) (W : World) (A : Option Addr) (cap : Nat) (acc : List Rul) : Prop :=
  ∃ vs : List (Value × Value × Value × Value), vs.length = acc.length ∧ W.ownsRow base 68 4 (.slice A acc.length cap) acc.length (cells4 vs) ∧ (Value.slice A acc.length cap).ownBlock ≠ some x ∧
    ∀ (i : Nat) (h : i < acc.length) (h2 : i < vs.length), vs[i].1 = .string (Lx.mk acc[i].1) ∧ Nd (fun r => base ≤ r ∧ r ≠ x ∧ (Value.slice A acc.length cap).ownBlock ≠ some r) W acc[i].2 vs[i].2.1 vs[i].2.2.1 vs[i].2.2.2
theorem QRItems.nil (base x : Nat) (W : World) : QRItems base x W none 0 [] := ⟨[], rfl, World.ownsRow_nil _ _ _ _, by simp [Value.ownBlock], fun i h => absurd h (by simp)⟩
theorem QRItems.keep {base x : Nat} {W W' : World} {A : Option Addr} {cap : Nat} {acc : List Rul} (h : QRItems base x W A cap acc) (hs : W.heap.size ≤ W'.heap.size) (hb : ∀ r, base ≤ r → r ≠ x → r < W.heap.size → W'.heap[r]? = W.heap[r]?) : QRItems base x W' A cap acc := by
  obtain ⟨vs, h1, h2, hx, h3⟩ := h
  refine ⟨vs, h1, ⟨h2.1, ?_⟩, hx, fun i hi hi2 => ⟨(h3 i hi hi2).1, (h3 i hi hi2).2.keep hs fun r hp hr => ⟨hp, fun j => ?_⟩⟩⟩
  · rcases h2.2 with h4 | ⟨g, cp, cur, hv, hbr, hh, hrest⟩
    · exact .inl h4
    · exact .inr ⟨g, cp, cur, hv, hbr, (hb g hbr (fun e => hx (by rw [hv, ← e]; rfl)) (heap_lt hh)).trans hh, hrest⟩
  · have := hb r hp.1 hp.2.1 hr
    unfold World.cell?
    simp only [this]
/-- The row as rules. -/
theorem QRItems.rls {base x : Nat} {W : World} {A : Option Addr} {cap : Nat} {acc : List Rul} (h : QRItems base x W A cap acc) : RlsAt (fun r => base ≤ r ∧ r ≠ x) W acc (.slice A acc.length cap) := by
  obtain ⟨vs, h1, h2, hx, h3⟩ := h
  rcases h2.2 with ⟨hv, hn⟩ | ⟨g, cp, cur, hv, hbr, hh, hnc, _⟩
  · have e : acc = [] := List.eq_nil_of_length_eq_zero hn
    subst e
    exact RlsAt.nil _ _ A cap
  · have hgx : g ≠ x := fun e => hx (by rw [hv, ← e]; rfl)
    injection hv with hA _ hcp
    subst hA
    subst hcp
    have hcell := h2.cells (g := g) rfl
    refine ⟨some ⟨g, 0, none⟩, cap, g, fun i => (vs.getD i (.bool false, .bool false, .bool false, .bool false)).2.1, fun i => (vs.getD i (.bool false, .bool false, .bool false, .bool false)).2.2.1, fun i => (vs.getD i (.bool false, .bool false, .bool false, .bool false)).2.2.2, rfl, hnc, fun _ => ⟨rfl, heap_lt hh, hbr, hgx⟩, fun i hi => ?_⟩
    have e : vs.getD i (.bool false, .bool false, .bool false, .bool false) = vs[i]'(by omega) := by simp [List.getD, List.getElem?_eq_getElem (show i < vs.length by omega)]
    obtain ⟨c1, c2, c3, c4⟩ := cells4_at vs i (by omega)
    obtain ⟨n1, n2⟩ := h3 i hi (by omega)
    simp only [e]
    refine ⟨⟨?_, ?_, ?_, ?_⟩, n2.keep (Nat.le_refl _) fun r hp _ => ⟨⟨hp.1, hp.2.1⟩, fun _ => rfl⟩⟩
    · rw [n1] at c1; have := hcell _ _ c1; rwa [Lx.add_row] at this
    · have := hcell _ _ c2; rwa [Lx.add_row] at this
    · have := hcell _ _ c3; rwa [Lx.add_row] at this
    · have := hcell _ _ c4; rwa [Lx.add_row] at this
theorem QRItems.own_lt {base x : Nat} {W : World} {A : Option Addr} {cap : Nat} {acc : List Rul} (h : QRItems base x W A cap acc) : ∀ k, (Value.slice A acc.length cap).ownBlock = some k → k < W.heap.size ∧ base ≤ k ∧ k ≠ x := by
  intro k hk
  obtain ⟨vs, _, ho, hx, _⟩ := h
  refine ⟨?_, own_block ho k hk, fun e => hx (by rw [hk, e])⟩
  rcases ho.2 with ⟨h1, _⟩ | ⟨q, _, _, h1, _, h3, _⟩
  · rw [h1] at hk; simp [Value.ownBlock] at hk
  · rw [h1] at hk
    simp [Value.ownBlock] at hk
    have := heap_lt h3
    omega
/-- Behind an append of one rule whose node was made behind the row. -/
theorem QRItems.snoc {base x lo gq cap' : Nat} {W1 w4 : World} {A : Option Addr} {cap : Nat} {acc : List Rul} {n : List UInt8} {t : Tree} {a b c : Value} {o : Obj} (h : QRItems base x W1 A cap acc) (hlo : base ≤ lo) (hxl : x < lo) (hown : ∀ k, (Value.slice A acc.length cap).ownBlock = some k → k < lo) (hlo2 : lo ≤ W1.heap.size) (hn : Nd (fun r => lo ≤ r) W1 t a b c)
    (hown4 : ∀ vs : List (Value × Value × Value × Value), W1.ownsRow base 68 4 (.slice A acc.length cap) acc.length (cells4 vs) → w4.ownsRow base 68 4 (.slice (some ⟨gq, 0, none⟩) (acc.length + 1) cap') (acc.length + 1) (cells4 vs ++ [.string (Lx.mk n), a, b, c]))
    (hg : (W1.alloc o).grownBy w4 (Value.slice A acc.length cap).ownBlock) (hat : (Value.slice A acc.length cap).ownBlock = some gq ∨ gq = (W1.alloc o).heap.size) :
    QRItems base x w4 (some ⟨gq, 0, none⟩) cap' (acc ++ [(n, t)]) := by
  have hol := h.own_lt
  obtain ⟨vs, h1, h2, hx, h3⟩ := h
  have ho := hown4 vs h2
  have hl : (acc ++ [(n, t)]).length = acc.length + 1 := by simp
  have hsz : W1.heap.size ≤ w4.heap.size := by have := hg.size; simp at this; omega
  have hcell : ∀ r j, r < W1.heap.size → (Value.slice A acc.length cap).ownBlock ≠ some r → w4.cell? ⟨r, j, none⟩ = W1.cell? ⟨r, j, none⟩ := fun r j hr hne => by
    have e := (hg.block r (by simp; omega) (fun e => hne e.symm)).trans (heap_alloc_old W1 o hr)
    unfold World.cell?
    simp only [e]
  have hgx : gq ≠ x := by
    rcases hat with h | h
    · exact (hol gq h).2.2
    · rw [h]; simp; omega
  refine ⟨vs ++ [(.string (Lx.mk n), a, b, c)], by simp [h1], by rw [hl, cells4_snoc]; exact ho, by rw [hl]; intro e; exact hgx (by simpa [Value.ownBlock] using e), fun i hi hi2 => ?_⟩
  rw [hl]
  have hne4 : ∀ r, r < W1.heap.size → (Value.slice A acc.length cap).ownBlock ≠ some r → (Value.slice (some ⟨gq, 0, none⟩) (acc.length + 1) cap').ownBlock ≠ some r := fun r hr hne e => by
    have e2 : gq = r := by simpa [Value.ownBlock] using e
    rcases hat with h | h
    · rw [e2] at h; exact hne h
    · rw [e2] at h; simp at h; omega
  by_cases hi3 : i < acc.length
  · have e1 : (acc ++ [(n, t)])[i] = acc[i] := List.getElem_append_left hi3
    have e2 : (vs ++ [(.string (Lx.mk n), a, b, c)])[i] = vs[i]'(by omega) := List.getElem_append_left (by omega)
    rw [e1, e2]
    exact ⟨(h3 i hi3 (by omega)).1, (h3 i hi3 (by omega)).2.keep hsz fun r hp hr => ⟨⟨hp.1, hp.2.1, hne4 r hr hp.2.2⟩, fun j => hcell r j hr hp.2.2⟩⟩
  · have hie : i = acc.length := by rw [hl] at hi; omega
    subst hie
    have e1 : (acc ++ [(n, t)])[acc.length]'hi = (n, t) := by simp
    have e2 : (vs ++ [(.string (Lx.mk n), a, b, c)])[acc.length]'hi2 = (.string (Lx.mk n), a, b, c) := by simp [← h1]
    rw [e1, e2]
    refine ⟨rfl, hn.keep hsz fun r hp hr => ?_⟩
    have hne : (Value.slice A acc.length cap).ownBlock ≠ some r := fun e => by have := hown r e; omega
    exact ⟨⟨by omega, by omega, hne4 r hr hne⟩, fun j => hcell r j hr hne⟩
theorem qruinfo : (Try.prog.info? 68).map (fun i => (i.zero, i.size, i.bytes)) = some (some (.agg #[.string ⟨#[]⟩, .int .i64 0, .string ⟨#[]⟩, .slice none 0 0]), 4, 64) := by kernel_rfl
end Go.Proofs.Ytppdemdjlhdfcaa.Sx

namespace Go.Proofs.Ytppdemdjlhdfcaa.Sx
open Lx (Tk)
set_option maxRecDepth 100000

theorem list_good (l : List UInt8) (h : Lx.GoodL l) : Lx.goodB l = true := by
  obtain ⟨h0, h32, hl, ha⟩ := h
  cases l with
  | nil => simp at h0
  | cons b r =>
    unfold Lx.goodB
    rw [decide_eq_true_eq]
    refine ⟨h0, h32, ?_⟩
    rw [Lx.nsz, if_pos (hl b r rfl)]
    exact (Lx.run_all _).2 ha
/-- Token i of a text. -/
theorem tk_cases {T : List Tk} {e : Tk} (he : e.kind = 4) (hv : ∀ t ∈ T, Lx.Valid t) (i : Nat) : Lx.Valid (tkAt (T ++ [e]) i) ∨ (tkAt (T ++ [e]) i).kind = 4 := by
  rcases Nat.lt_or_ge i T.length with hi | h1
  · rw [tkAt_app_left hi]
    have e1 : tkAt T i = T[i] := by simp [tkAt, List.getD, List.getElem?_eq_getElem hi]
    rw [e1]
    exact .inl (hv _ (List.getElem_mem hi))
  · right
    rcases Nat.eq_or_lt_of_le h1 with h2 | h2
    · have := tkAt_app_right (a := T) (b := [e]) 0
      rw [Nat.zero_add] at this
      rw [← h2, this]; exact he
    · unfold tkAt
      rw [List.getD_eq_getElem?_getD, List.getElem?_eq_none (by simp; omega)]
      rfl
theorem kinds_app {T : List Tk} {e : Tk} (he : e.kind = 4) (hv : ∀ t ∈ T, Lx.Valid t) : Kinds (T ++ [e]) := fun i => by
  rcases tk_cases he hv i with (h | h | h) | h
  · exact .inl h.1
  · exact .inr (.inl h.1)
  · exact .inr (.inr (.inl h.1))
  · exact .inr (.inr (.inr h))
theorem impL_all : ∀ l : List Tree, (∀ a ∈ l, impT a = false) → impL l = false
  | [], _ => rfl
  | a :: l, h => by rw [impL, h a (by simp), impL_all l fun b hb => h b (by simp [hb])]; rfl
theorem impRs_all : ∀ l : List Rul, (∀ a ∈ l, impR a = false) → impRs l = false
  | [], _ => rfl
  | a :: l, h => by rw [impRs, h a (by simp), impRs_all l fun b hb => h b (by simp [hb])]; rfl
/-- What is read is proper. -/
theorem parse_fine {T : List Tk} {e : Tk} {G : Gram} {j : Nat} (he : e.kind = 4) (hv : ∀ t ∈ T, Lx.Valid t) (h : parseT (T ++ [e]) = .ok G j) :
    Lx.goodB G.start = true ∧ 0 < G.rules.length ∧ impRs G.rules = false := by
  have hP := parseT_is (T ++ [e])
  rw [h] at hP
  have := gram_all (T ++ [e]) (ended_app T e he) (fun t => impT t = false)
    (fun i hk => by
      rcases tk_cases he hv i with (h | h | h) | h
      · rw [impT, impL, show topB 1 (tkAt (T ++ [e]) i).text ([] : List Tree).length = true by unfold topB; rw [if_pos rfl, list_good _ h.2]; rfl]; rfl
      · omega
      · have := h.1; omega
      · omega)
    (fun i hk => by
      rcases tk_cases he hv i with (h | h | h) | h
      · have := h.1; omega
      · rw [impT, impL, show topB 2 (tkAt (T ++ [e]) i).text ([] : List Tree).length = true by unfold topB; rw [if_neg (by decide), if_pos rfl, decide_eq_true h.2.1, decide_eq_true h.2.2]; rfl]; rfl
      · have := h.1; omega
      · omega)
    (fun acc ha _ hne => by rw [impT, impL_all acc ha, show topB 3 [] acc.length = true by unfold topB; rw [if_neg (by decide), if_neg (by decide), if_pos rfl, decide_eq_true hne]; rfl]; rfl)
    (fun acc ha _ h2 => by rw [impT, impL_all acc ha, show topB 4 [] acc.length = true by unfold topB; rw [if_neg (by decide), if_neg (by decide), if_neg (by decide), if_pos rfl, decide_eq_true (show 1 < acc.length by omega)]; rfl]; rfl)
    (fun k t hk ht => by
      rw [impT, impL, impL, ht, show topB k [] [t].length = true by unfold topB; rw [if_neg (by omega), if_neg (by omega), if_neg (by omega), if_neg (by omega), if_pos hk]; rfl]; rfl)
    (fun n => Lx.goodB n = true)
    (fun i hk => by
      rcases tk_cases he hv i with (h | h | h) | h
      · exact list_good _ h.2
      · omega
      · have := h.1; omega
      · omega) _ (by simp) G j hP
  obtain ⟨h1, h2, h3, _⟩ := this
  exact ⟨h1, h3, impRs_all _ fun r hr => by unfold impR; rw [(h2 r hr).1, (h2 r hr).2]; rfl⟩
end Go.Proofs.Ytppdemdjlhdfcaa.Sx
