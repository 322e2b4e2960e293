/-
  The walk of row.
-/
import Derived.Test.YtakihbjfkpebcaaSxBrk
import Derived.Deep.RegionHeld3
namespace Go.Proofs.Ytakihbjfkpebcaa.Sx
open Go.RowKit
open Lx (Tk Toks)
set_option maxRecDepth 100000

theorem LoopAt.drewN {W0 : World} {ts : List Tk} {g r cap d : Nat} {W : World} {A : Option Addr} {cp : Nat} {acc : List Tree} {i : Nat} (h : LoopAt W0 ts g r cap d W A cp acc i) (n : Nat) : LoopAt W0 ts g r cap d (W.drewN n) A cp acc i :=
  ⟨h.items.keep (Nat.le_refl _) fun _ _ _ => rfl, h.par.drewN n, h.res, sep_drewN h.sep n, h.size⟩
theorem LoopAt.below {W0 : World} {ts : List Tk} {g r cap d : Nat} {W W' : World} {A : Option Addr} {cp : Nat} {acc : List Tree} {i : Nat} (h : LoopAt W0 ts g r cap d W A cp acc i) (hg : g < W0.heap.size) (b : Below W.heap.size W W') : LoopAt W0 ts g r cap d W' A cp acc i :=
  h.call hg (h.par.below b) (Lx.Sep.of_below b)

/-- How far row is. -/
def RowAt (W0 : World) (ts : List Tk) (g r cap d f : Nat) (R : Res Tree) (v : Value) (W : World) : Prop :=
  ∃ (f' i cp : Nat) (A : Option Addr) (acc : List Tree), v = .slice A acc.length cp ∧ f' ≤ f ∧ i < ts.length ∧ acc.length ≤ i ∧ pItems ts f' d i acc = some R ∧ LoopAt W0 ts g r cap d W A cp acc i

set_option maxHeartbeats 16000000 in
theorem row_any (ts : List Tk) (hE : Ended ts) (hn : ts.length ≤ 65537) (f : Nat) (hitem : ∀ f', f' ≤ f → Ctr 103 ts (pItem ts f')) : Ctr 97 ts (pRow ts (f + 1)) := by
  intro W g r cap i d R hp hi hd hR
  have hg := Lx.heap_lt hp.blk
  rw [pRow] at hR
  have hz : ZAt (W.alloc (.cells #[.int .i64 0, .string ⟨#[]⟩, .slice none 0 0] 63)) W.heap.size := heap_alloc_new W _
  have hb0 : Below W.heap.size W (W.alloc (.cells #[.int .i64 0, .string ⟨#[]⟩, .slice none 0 0] 63)) := (Below.refl _ _).alloc (Nat.le_refl _) _
  have hL : LoopAt W ts g r cap d (W.alloc (.cells #[.int .i64 0, .string ⟨#[]⟩, .slice none 0 0] 63)) none 0 [] i := ⟨Items.nil _ _, hp.below hb0, hz, Lx.Sep.of_below hb0, by simp⟩
  have HL := Lib.hid hL
  have HR := Lib.hid hR
  clear hL hz hb0 hp hR
  obtain ⟨i0, hi0, hz0, hz1, hz2⟩ := info_parts ndinfo
  go_enter Try.func97, Try.ntmps97
  go_wp2
  go_loopw [3] (fun v wr => RowAt W ts g r cap d f R v wr) (fun _ wr => ts.length - atOf wr g)
  case atStart => exact ⟨f, i, 0, none, [], rfl, Nat.le_refl _, hi, Nat.zero_le _, HR.out, HL.out⟩
  case round =>
    obtain ⟨f', i', cp, A, acc, rfl, hf', hi', hacc, hM, hLp⟩ := hrel
    have hat := atOf_is hLp.par
    cases f' with
    | zero => simp [pItems] at hM
    | succ f'' =>
      rw [pItems] at hM
      obtain ⟨c0, c1, c2, cf⟩ := hLp.par.facts
      obtain ⟨x0, x1, x2, x3⟩ := hLp.par.tk hi'
      have hle := hLp.par.le
      have KA := fun n => is_any _ g r ts cap i' d 1 (hLp.par.drewN n) hi'
      have KB := fun n => is_any _ g r ts cap i' d 2 (hLp.par.drewN n) hi'
      have KC := fun W => closing_any (tkAt ts i').kind (tkAt ts i').text (tkAt ts i').line (tkAt ts i').col W
      rw [clo_clos] at KC
      have HL1 := Lib.hid (fun n => hLp.drewN n)
      have HAT := Lib.hid hat
      clear hat hLp
      by_cases k1 : (tkAt ts i').kind = 1
      · rw [show starts ts i' = true by unfold starts; simp [k1], if_pos rfl] at hM
        have hbA : (((tkAt ts i').kind : Int) == ((1 : Nat) : Int)) = true := by rw [k1]; rfl
        simp only [hbA] at KA
        have HKA := Lib.hid KA
        clear k1 hbA
        rcases bind_some hM with ⟨l, c', q, h1, rfl⟩ | ⟨t2, k2', h1, h2⟩
        · have KX := fun n => hitem f'' (by omega) _ g r cap i' d _ (HL1.out n).par hi' hd h1
          have HKX := Lib.hid KX
          clear KX KA KB KC hM h1
          go_wp2_with fail
          go_quiet ((go_at_call 68; exact Calls.quiet_of (HKA.out _)))
          go_wp2_with fail
          refine (HKX.out _).mono ?_
          rintro e w3 ⟨rfl, hs3⟩
          have hL2 := HL1.out nq
          have hfin := hL2.sep.trans (hs3.mono (by have := hL2.size; omega))
          clear hs3 hL2
          go_wp2
          exact ⟨rfl, rfl, hfin⟩
        · have KX := fun n => hitem f'' (by omega) _ g r cap i' d _ (HL1.out n).par hi' hd h1
          have HKX := Lib.hid KX
          have H2b := Lib.hid h2
          have hk2 := (inb_all ts hE f'').2.2.2.2.1 d i' hi' t2 k2' h1
          have hk3 := (adv_all ts f'').2.2.2.2.1 d i' t2 k2' h1
          clear KX KA KB KC hM h1 h2
          go_wp2_with fail
          go_quiet ((go_at_call 68; exact Calls.quiet_of (HKA.out _)))
          go_wp2_with fail
          refine (HKX.out _).mono ?_
          rintro e w3 ⟨x, rfl, ⟨ya, yb, yc, rfl, hnd⟩, hp3, hs3⟩
          have hL2 := HL1.out nq
          have hL3 := hL2.call hg hp3 hs3
          obtain ⟨kb, tb, Ab, nb, cb, rfl, rfl, rfl⟩ := hnd.form
          obtain ⟨vs, hv1, hv2, hv3⟩ := hL3.items
          have hsz3 := hL3.size
          have HV2 := Lib.hid hv2
          have HL2 := Lib.hid hL2
          have HL3 := Lib.hid hL3
          have HN := Lib.hid hnd
          clear hL2 hL3 hp3 hs3 hv1 hv2 hv3 hnd
          go_wp2_with ((at_builtin; refine wpList_append_own_at _ rfl _ _ 61 rfl (W.heap.size + 1) 63 i0 _ 3 48 Try.underlying61 hi0 hz0 hz1 hz2 rfl (by decide) _ _ _ rfl (HV2.out.alloc _) ⟨w3.heap.size, 0, none⟩ 1 1 [.int .i64 kb, .string tb, .slice Ab nb cb] rfl rfl (Lx.row_new _ [.int .i64 kb, .string tb, .slice Ab nb cb] _ _ rfl) (by simp [Value.oneCell']) (by unfold maxLen; omega) (by omega) (by simp; omega) ?_))
          intro v' w4 hown4 hgrow4 _ hat4
          obtain ⟨A', cp', rfl, hL4⟩ := HL3.out.snoc hg HL2.out.size (fun k hk => (HL2.out.own_lt k hk).1) HN.out (fun vs2 hv2 => by rw [owns_uniq hv2 HV2.out]; exact hown4) hgrow4 (by rw [heap_size_alloc']; exact hat4)
          have HL4 := Lib.hid hL4
          clear hL4 hgrow4 hat4 hown4
          go_wp2
          go_roundw
          case rel => exact ⟨f'', k2', cp', A', acc ++ [t2], by simp, by omega, hk2, by simp; omega, H2b.out, HL4.out⟩
          case measure =>
            rw [HAT.out, atOf_is HL4.out.par]
            omega
      · by_cases k2 : (tkAt ts i').kind = 2
        · rw [show starts ts i' = true by unfold starts; simp [k2], if_pos rfl] at hM
          have hbA : (((tkAt ts i').kind : Int) == ((1 : Nat) : Int)) = false := by rw [beq_eq_false_iff_ne]; omega
          simp only [hbA] at KA
          have hbB : (((tkAt ts i').kind : Int) == ((2 : Nat) : Int)) = true := by rw [k2]; rfl
          simp only [hbB] at KB
          have HKA := Lib.hid KA
          have HKB := Lib.hid KB
          clear k1 k2 hbA hbB
          rcases bind_some hM with ⟨l, c', q, h1, rfl⟩ | ⟨t2, k2', h1, h2⟩
          · have KX := fun n => hitem f'' (by omega) _ g r cap i' d _ (HL1.out n).par hi' hd h1
            have HKX := Lib.hid KX
            clear KX KA KB KC hM h1
            go_wp2_with fail
            go_quiet ((first | (go_at_call_of 68 (Value.int IntKind.i64 1); exact Calls.quiet_of (HKA.out _)) | (go_at_call_of 68 (Value.int IntKind.i64 2); exact Calls.quiet_of (HKB.out _))))
            go_wp2_with fail
            refine (HKX.out _).mono ?_
            rintro e w3 ⟨rfl, hs3⟩
            have hL2 := HL1.out nq
            have hfin := hL2.sep.trans (hs3.mono (by have := hL2.size; omega))
            clear hs3 hL2
            go_wp2
            exact ⟨rfl, rfl, hfin⟩
          · have KX := fun n => hitem f'' (by omega) _ g r cap i' d _ (HL1.out n).par hi' hd h1
            have HKX := Lib.hid KX
            have H2b := Lib.hid h2
            have hk2 := (inb_all ts hE f'').2.2.2.2.1 d i' hi' t2 k2' h1
            have hk3 := (adv_all ts f'').2.2.2.2.1 d i' t2 k2' h1
            clear KX KA KB KC hM h1 h2
            go_wp2_with fail
            go_quiet ((first | (go_at_call_of 68 (Value.int IntKind.i64 1); exact Calls.quiet_of (HKA.out _)) | (go_at_call_of 68 (Value.int IntKind.i64 2); exact Calls.quiet_of (HKB.out _))))
            go_wp2_with fail
            refine (HKX.out _).mono ?_
            rintro e w3 ⟨x, rfl, ⟨ya, yb, yc, rfl, hnd⟩, hp3, hs3⟩
            have hL2 := HL1.out nq
            have hL3 := hL2.call hg hp3 hs3
            obtain ⟨kb, tb, Ab, nb, cb, rfl, rfl, rfl⟩ := hnd.form
            obtain ⟨vs, hv1, hv2, hv3⟩ := hL3.items
            have hsz3 := hL3.size
            have HV2 := Lib.hid hv2
            have HL2 := Lib.hid hL2
            have HL3 := Lib.hid hL3
            have HN := Lib.hid hnd
            clear hL2 hL3 hp3 hs3 hv1 hv2 hv3 hnd
            go_wp2_with ((at_builtin; refine wpList_append_own_at _ rfl _ _ 61 rfl (W.heap.size + 1) 63 i0 _ 3 48 Try.underlying61 hi0 hz0 hz1 hz2 rfl (by decide) _ _ _ rfl (HV2.out.alloc _) ⟨w3.heap.size, 0, none⟩ 1 1 [.int .i64 kb, .string tb, .slice Ab nb cb] rfl rfl (Lx.row_new _ [.int .i64 kb, .string tb, .slice Ab nb cb] _ _ rfl) (by simp [Value.oneCell']) (by unfold maxLen; omega) (by omega) (by simp; omega) ?_))
            intro v' w4 hown4 hgrow4 _ hat4
            obtain ⟨A', cp', rfl, hL4⟩ := HL3.out.snoc hg HL2.out.size (fun k hk => (HL2.out.own_lt k hk).1) HN.out (fun vs2 hv2 => by rw [owns_uniq hv2 HV2.out]; exact hown4) hgrow4 (by rw [heap_size_alloc']; exact hat4)
            have HL4 := Lib.hid hL4
            clear hL4 hgrow4 hat4 hown4
            go_wp2
            go_roundw
            case rel => exact ⟨f'', k2', cp', A', acc ++ [t2], by simp, by omega, hk2, by simp; omega, H2b.out, HL4.out⟩
            case measure =>
              rw [HAT.out, atOf_is HL4.out.par]
              omega
        · have hbA : (((tkAt ts i').kind : Int) == ((1 : Nat) : Int)) = false := by rw [beq_eq_false_iff_ne]; omega
          simp only [hbA] at KA
          have hbB : (((tkAt ts i').kind : Int) == ((2 : Nat) : Int)) = false := by rw [beq_eq_false_iff_ne]; omega
          simp only [hbB] at KB
          have HKA := Lib.hid KA
          have HKB := Lib.hid KB
          cases hc : clos ts i' with
          | none =>
            rw [show starts ts i' = false by unfold starts; simp [k1, k2, hc], if_neg (by decide)] at hM
            injection hM with hM
            subst hM
            rw [hc] at KC
            rw [show Lx.mk (match (none : Option UInt8) with | none => [] | some c => [c]) = (⟨#[]⟩ : ByteArray) from rfl] at KC
            have HKC := Lib.hid KC
            have HGL := Lib.hid (Lx.heap_lt (HL1.out 0).par.blk)
            have HRL := Lib.hid (HL1.out 0).par.tok.1
            clear KA KB KC hc k1 k2 hbA hbB
            go_wp2_with fail
            go_region_held3 (fun W' => W'.cell? ⟨g, 0, none⟩ = some (.slice (some ⟨r, 0, none⟩) ts.length cap) ∧ W'.cell? ⟨g, 1, none⟩ = some (.int .i64 i') ∧ W'.cell? ⟨r, i' * 4, none⟩ = some (.int .i64 (tkAt ts i').kind) ∧ W'.cell? ⟨r, i' * 4 + 1, none⟩ = some (.string (Lx.mk (tkAt ts i').text)) ∧ W'.cell? ⟨r, i' * 4 + 2, none⟩ = some (.int .i64 (tkAt ts i').line) ∧ W'.cell? ⟨r, i' * 4 + 3, none⟩ = some (.int .i64 (tkAt ts i').col)) (first | exact ⟨c0, c1, x0, x1, x2, x3⟩ | exact ⟨(hb1.cell (p := ⟨g, 0, none⟩) HGL.out).trans c0, (hb1.cell (p := ⟨g, 1, none⟩) HGL.out).trans c1, (hb1.cell (p := ⟨r, i' * 4, none⟩) HRL.out).trans x0, (hb1.cell (p := ⟨r, i' * 4 + 1, none⟩) HRL.out).trans x1, (hb1.cell (p := ⟨r, i' * 4 + 2, none⟩) HRL.out).trans x2, (hb1.cell (p := ⟨r, i' * 4 + 3, none⟩) HRL.out).trans x3⟩) (first | (go_at_call 102; refine (HKC.out _).mono ?_; rintro e w1 ⟨rfl, hb1⟩) | (go_at_call_of 68 (Value.int IntKind.i64 1); refine (HKA.out _).mono ?_; rintro e w1 ⟨rfl, m, rfl⟩) | (go_at_call_of 68 (Value.int IntKind.i64 2); refine (HKB.out _).mono ?_; rintro e w1 ⟨rfl, m2, rfl⟩))
            all_goals
              have hL2 := (HL1.out _).below hg hb1
              have KJ := joined_any (W.heap.size + 1) 3 A cp acc w1 hL2.items (by omega)
              have HL2 := Lib.hid hL2
              have HKJ := Lib.hid KJ
              clear hL2 hb1 KJ c0 c1 c2 cf x0 x1 x2 x3
              go_wp2_with fail
              refine HKJ.out.mono ?_
              rintro e w3 ⟨ya, yb, yc, rfl, hnd, hb3⟩
              obtain ⟨kb, tb, Ab, nb, cb, rfl, rfl, rfl⟩ := hnd.form
              have hz3 : ZAt w3 W.heap.size := (hb3.block _ (Lx.heap_lt HL2.out.res)).trans HL2.out.res
              obtain ⟨z0, z1, z2, zf⟩ := hz3.facts
              have HZ3 := Lib.hid hz3
              have HN := Lib.hid hnd
              have HB := Lib.hid hb3
              clear hz3 hnd hb3
              go_wp2
              exact bodyPost_ret (results_cell_row rfl _ _ W.heap.size 63 _ (0, 0) _ rfl (res_done HZ3.out _ _ _) Try.underlying63 rfl rfl) rfl (res_out HL2.out HB.out HN.out hg)
          | some c =>
            rw [show starts ts i' = true by unfold starts; simp [hc], if_pos rfl] at hM
            rw [hc] at KC
            rw [show Lx.mk (match (some c : Option UInt8) with | none => [] | some c => [c]) = (⟨#[c]⟩ : ByteArray) from rfl] at KC
            have HKC := Lib.hid KC
            have HGL := Lib.hid (Lx.heap_lt (HL1.out 0).par.blk)
            have HRL := Lib.hid (HL1.out 0).par.tok.1
            rcases bind_some hM with ⟨l, c', q, h1, rfl⟩ | ⟨t2, k2', h1, h2⟩
            · have KX := fun w (hw : PAt w g r ts cap i' d) => hitem f'' (by omega) w g r cap i' d _ hw hi' hd h1
              have HKX := Lib.hid KX
              clear KX KA KB KC hM hbA hbB k1 k2 hc h1
              go_wp2_with fail
              go_region_held3 (fun W' => W'.cell? ⟨g, 0, none⟩ = some (.slice (some ⟨r, 0, none⟩) ts.length cap) ∧ W'.cell? ⟨g, 1, none⟩ = some (.int .i64 i') ∧ W'.cell? ⟨r, i' * 4, none⟩ = some (.int .i64 (tkAt ts i').kind) ∧ W'.cell? ⟨r, i' * 4 + 1, none⟩ = some (.string (Lx.mk (tkAt ts i').text)) ∧ W'.cell? ⟨r, i' * 4 + 2, none⟩ = some (.int .i64 (tkAt ts i').line) ∧ W'.cell? ⟨r, i' * 4 + 3, none⟩ = some (.int .i64 (tkAt ts i').col)) (first | exact ⟨c0, c1, x0, x1, x2, x3⟩ | exact ⟨(hb1.cell (p := ⟨g, 0, none⟩) HGL.out).trans c0, (hb1.cell (p := ⟨g, 1, none⟩) HGL.out).trans c1, (hb1.cell (p := ⟨r, i' * 4, none⟩) HRL.out).trans x0, (hb1.cell (p := ⟨r, i' * 4 + 1, none⟩) HRL.out).trans x1, (hb1.cell (p := ⟨r, i' * 4 + 2, none⟩) HRL.out).trans x2, (hb1.cell (p := ⟨r, i' * 4 + 3, none⟩) HRL.out).trans x3⟩) (first | (go_at_call 102; refine (HKC.out _).mono ?_; rintro e w1 ⟨rfl, hb1⟩) | (go_at_call_of 68 (Value.int IntKind.i64 1); refine (HKA.out _).mono ?_; rintro e w1 ⟨rfl, m, rfl⟩) | (go_at_call_of 68 (Value.int IntKind.i64 2); refine (HKB.out _).mono ?_; rintro e w1 ⟨rfl, m2, rfl⟩))
              all_goals
                have hL2 := (HL1.out _).below hg hb1
                have KX2 := HKX.out w1 hL2.par
                have HLB := Lib.hid hL2
                have HKX2 := Lib.hid KX2
                clear hL2 KX2 hb1 c0 c1 c2 cf x0 x1 x2 x3
                go_wp2_with fail
                refine HKX2.out.mono ?_
                rintro e w3 ⟨rfl, hs3⟩
                have hfin := HLB.out.sep.trans (hs3.mono (by have := HLB.out.size; omega))
                clear hs3
                go_wp2
                exact ⟨rfl, rfl, hfin⟩
            · have KX := fun w (hw : PAt w g r ts cap i' d) => hitem f'' (by omega) w g r cap i' d _ hw hi' hd h1
              have HKX := Lib.hid KX
              have H2b := Lib.hid h2
              have hk2 := (inb_all ts hE f'').2.2.2.2.1 d i' hi' t2 k2' h1
              have hk3 := (adv_all ts f'').2.2.2.2.1 d i' t2 k2' h1
              clear KX KA KB KC hM hbA hbB k1 k2 hc h1 h2
              go_wp2_with fail
              go_region_held3 (fun W' => W'.cell? ⟨g, 0, none⟩ = some (.slice (some ⟨r, 0, none⟩) ts.length cap) ∧ W'.cell? ⟨g, 1, none⟩ = some (.int .i64 i') ∧ W'.cell? ⟨r, i' * 4, none⟩ = some (.int .i64 (tkAt ts i').kind) ∧ W'.cell? ⟨r, i' * 4 + 1, none⟩ = some (.string (Lx.mk (tkAt ts i').text)) ∧ W'.cell? ⟨r, i' * 4 + 2, none⟩ = some (.int .i64 (tkAt ts i').line) ∧ W'.cell? ⟨r, i' * 4 + 3, none⟩ = some (.int .i64 (tkAt ts i').col)) (first | exact ⟨c0, c1, x0, x1, x2, x3⟩ | exact ⟨(hb1.cell (p := ⟨g, 0, none⟩) HGL.out).trans c0, (hb1.cell (p := ⟨g, 1, none⟩) HGL.out).trans c1, (hb1.cell (p := ⟨r, i' * 4, none⟩) HRL.out).trans x0, (hb1.cell (p := ⟨r, i' * 4 + 1, none⟩) HRL.out).trans x1, (hb1.cell (p := ⟨r, i' * 4 + 2, none⟩) HRL.out).trans x2, (hb1.cell (p := ⟨r, i' * 4 + 3, none⟩) HRL.out).trans x3⟩) (first | (go_at_call 102; refine (HKC.out _).mono ?_; rintro e w1 ⟨rfl, hb1⟩) | (go_at_call_of 68 (Value.int IntKind.i64 1); refine (HKA.out _).mono ?_; rintro e w1 ⟨rfl, m, rfl⟩) | (go_at_call_of 68 (Value.int IntKind.i64 2); refine (HKB.out _).mono ?_; rintro e w1 ⟨rfl, m2, rfl⟩))
              all_goals
                have hL2 := (HL1.out _).below hg hb1
                have KX2 := HKX.out w1 hL2.par
                have HLB := Lib.hid hL2
                have HKX2 := Lib.hid KX2
                clear hL2 KX2 hb1 c0 c1 c2 cf x0 x1 x2 x3
                go_wp2_with fail
                refine HKX2.out.mono ?_
                rintro e w3 ⟨x, rfl, ⟨ya, yb, yc, rfl, hnd⟩, hp3, hs3⟩
                have hL2 := HLB.out
                have hL3 := hL2.call hg hp3 hs3
                obtain ⟨kb, tb, Ab, nb, cb, rfl, rfl, rfl⟩ := hnd.form
                obtain ⟨vs, hv1, hv2, hv3⟩ := hL3.items
                have hsz3 := hL3.size
                have HV2 := Lib.hid hv2
                have HL2 := Lib.hid hL2
                have HL3 := Lib.hid hL3
                have HN := Lib.hid hnd
                clear hL2 hL3 hp3 hs3 hv1 hv2 hv3 hnd
                go_wp2_with ((at_builtin; refine wpList_append_own_at _ rfl _ _ 61 rfl (W.heap.size + 1) 63 i0 _ 3 48 Try.underlying61 hi0 hz0 hz1 hz2 rfl (by decide) _ _ _ rfl (HV2.out.alloc _) ⟨w3.heap.size, 0, none⟩ 1 1 [.int .i64 kb, .string tb, .slice Ab nb cb] rfl rfl (Lx.row_new _ [.int .i64 kb, .string tb, .slice Ab nb cb] _ _ rfl) (by simp [Value.oneCell']) (by unfold maxLen; omega) (by omega) (by simp; omega) ?_))
                intro v' w4 hown4 hgrow4 _ hat4
                obtain ⟨A', cp', rfl, hL4⟩ := HL3.out.snoc hg HL2.out.size (fun k hk => (HL2.out.own_lt k hk).1) HN.out (fun vs2 hv2 => by rw [owns_uniq hv2 HV2.out]; exact hown4) hgrow4 (by rw [heap_size_alloc']; exact hat4)
                have HL4 := Lib.hid hL4
                clear hL4 hgrow4 hat4 hown4
                go_wp2
                go_roundw
                case rel => exact ⟨f'', k2', cp', A', acc ++ [t2], by simp, by omega, hk2, by simp; omega, H2b.out, HL4.out⟩
                case measure =>
                  rw [HAT.out, atOf_is HL4.out.par]
                  omega

end Go.Proofs.Ytakihbjfkpebcaa.Sx
