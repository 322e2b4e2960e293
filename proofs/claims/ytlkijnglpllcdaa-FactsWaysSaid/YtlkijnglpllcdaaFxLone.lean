/-
  The walks of lonely, ahead, and the closures that tell where one goes.
-/
import Derived.Test.YtlkijnglpllcdaaFxAsked
namespace Go.Proofs.Ytlkijnglpllcdaa.Fx
open Go.RowKit
set_option maxRecDepth 100000

/-- Does a symbol derive the empty word, by what is told of the nonterminals? -/
def fullB (N : List Bool) (s : Int) : Bool := decide (s < 0) || !N.getD s.toNat false
def loneL (N : List Bool) (r : List Int) : List Int :=
  match r.filter (fullB N) with
  | [] => r
  | [s] => [s]
  | _ => []
/-- Numbers are told: new ones, or those that came in. -/
def TellsInts (W : World) (l : List Int) (e : Ending) (w' : World) : Prop := ∃ u, e = .returned u ∧ IntsAt (fun _ => True) w' l u ∧ Below W.heap.size W w'

set_option maxHeartbeats 4000000 in
theorem lonely_any (N : List Bool) (r : List Int) (hr : ∀ s ∈ r, s < (N.length : Int)) (hn : r.length ≤ 1048576) (P Q : Nat → Prop) (W : World) (v u : Value) (h : IntsAt P W r v) (hu : BoolsAt Q W N u) :
    Calls Try.prog 35 #[v, u] W (TellsInts W (loneL N r)) := by
  have HRET := Lib.hid (fun w' (b : Below W.heap.size W w') => (h.under b).keep (Q := fun _ => True) (Nat.le_refl _) fun q _ _ => ⟨trivial, fun _ => rfl⟩)
  obtain ⟨A, cap, b, rfl, hcap, h3, h4⟩ := h
  obtain ⟨B, cb, bb, rfl, hcb, g3, g4⟩ := hu
  obtain ⟨R, hR⟩ : ∃ R, R = loneL N r := ⟨_, rfl⟩
  rw [← hR]
  have HR := Lib.hid hR
  obtain ⟨n, hn1⟩ : ∃ n, n = r.length := ⟨_, rfl⟩
  rw [← hn1] at hcap h3 hn HRET ⊢
  have HN1 := Lib.hid hn1
  have H3 := Lib.hid h3
  have H4 := Lib.hid h4
  have G3 := Lib.hid g3
  have G4 := Lib.hid g4
  have HL := Lib.hid hr
  obtain ⟨nn, hnn⟩ : ∃ nn, nn = N.length := ⟨_, rfl⟩
  rw [← hnn] at G3 HL ⊢
  rw [← hnn] at hcb
  have HNN := Lib.hid hnn
  obtain ⟨i0, hi0, hz0, hz1, hz2⟩ := info_parts iinfo
  clear hR hn1 h3 h4 g3 g4 hr hnn
  go_enter Try.func35, Try.ntmps35
  go_wp2
  go_loopw [5, 10] (fun u i wr => ∃ k : Nat, k ≤ n ∧ i = .int .i64 k ∧ wr.ownsRow W.heap.size 3 1 u ((r.take k).filter (fullB N)).length (((r.take k).filter (fullB N)).map (Value.int .i64)) ∧ Below W.heap.size W wr) (fun _ i _ => n - (intOf i).toNat)
  case atStart => exact ⟨0, Nat.zero_le _, rfl, World.ownsRow_nil _ _ _ _, Below.refl _ _⟩
  case round =>
    obtain ⟨k, hk, rfl, hrow, hbel⟩ := hrel
    have hfl : ((r.take k).filter (fullB N)).length ≤ n := by
      have := List.length_filter_le (fullB N) (r.take k)
      rw [List.length_take] at this
      have := HN1.out
      omega
    obtain ⟨F, hF⟩ : ∃ F, F = (r.take k).filter (fullB N) := ⟨_, rfl⟩
    rw [← hF] at hrow hfl
    obtain ⟨Au, cu, rfl⟩ := Gn.slice_of hrow
    have HRW := Lib.hid hrow
    have HB := Lib.hid hbel
    have HF := Lib.hid hF
    clear hrow hbel hF
    by_cases hlt : k < n
    · have h1 : k < r.length := by rw [← HN1.out]; exact hlt
      obtain ⟨rfl, hb, _⟩ := H3.out (by omega)
      have x0 := (HB.out.cell (p := ⟨b, k, none⟩) hb).trans (H4.out k h1)
      have HT := Lib.hid (show (r.take (k + 1)).filter (fullB N) = F ++ [r[k]].filter (fullB N) by rw [List.take_succ_eq_append_getElem h1, List.filter_append, HF.out])
      have hzz := HL.out r[k] (List.getElem_mem h1)
      obtain ⟨z, hz⟩ : ∃ z, z = r[k] := ⟨_, rfl⟩
      rw [← hz] at x0 HT hzz
      clear hz
      have hcs : (fullB N z = true ∧ (z < 0 ∨ ∃ q : Nat, z = (q : Int) ∧ q < nn ∧ N.getD q false = false)) ∨ (fullB N z = false ∧ ∃ q : Nat, z = (q : Int) ∧ q < nn ∧ N.getD q false = true) := by
        by_cases h0 : z < 0
        · exact .inl ⟨by unfold fullB; rw [decide_eq_true h0]; rfl, .inl h0⟩
        · obtain ⟨q, rfl⟩ : ∃ q : Nat, z = q := ⟨z.toNat, by omega⟩
          have hq : q < nn := by omega
          cases hv : N.getD q false
          · exact .inl ⟨by unfold fullB; rw [Int.toNat_natCast, hv]; simp, .inr ⟨q, rfl, hq, hv⟩⟩
          · exact .inr ⟨by unfold fullB; rw [Int.toNat_natCast, hv, decide_eq_false h0]; rfl, q, rfl, hq, hv⟩
      have hget : ∀ q, q < nn → ∃ bq, B = some ⟨bb, 0, none⟩ ∧ wr.cell? ⟨bb, q, none⟩ = some (.bool bq) ∧ bq = N.getD q false := fun q hq => by
        obtain ⟨e1, e2, _⟩ := G3.out (by omega)
        have hq2 : q < N.length := by rw [← HNN.out]; exact hq
        refine ⟨_, e1, (HB.out.cell (p := ⟨bb, q, none⟩) e2).trans (G4.out q hq2), ?_⟩
        rw [List.getD_eq_getElem?_getD, List.getElem?_eq_getElem hq2]; rfl
      rcases hcs with ⟨hf, hc⟩ | ⟨hf, q, rfl, hq, hv⟩
      · have HT2 := Lib.hid (show (r.take (k + 1)).filter (fullB N) = F ++ [z] by rw [HT.out, List.filter_cons_of_pos hf]; rfl)
        clear hf
        rcases hc with h0 | ⟨q, rfl, hq, hv⟩
        · clear hget
          go_wp2_with (at_builtin; refine wpList_append_lies _ rfl _ _ 22 rfl W.heap.size 3 i0 _ 1 8 Try.underlying22 hi0 hz0 hz1 hz2 rfl (by decide) (.slice Au F.length cu) F.length _ rfl (HRW.out.alloc _) ⟨wr.heap.size, 0, none⟩ 1 1 [.int .i64 z] rfl rfl (Gn.row_new _ [.int .i64 z] _ _ rfl) (by simp [Value.oneCell']) (by decide) (by unfold maxLen; omega) (by omega) (by have := HB.out.size; simp; omega) _ rfl ?_; intro gq cap' w4 hown4 hgrow4 hat4 hlt4; have HO4 := Lib.hid (show w4.ownsRow W.heap.size 3 1 (.slice (some ⟨gq, 0, none⟩) (F.length + 1) cap') ((r.take (k + 1)).filter (fullB N)).length (((r.take (k + 1)).filter (fullB N)).map (Value.int .i64)) by rw [HT2.out, List.length_append, List.map_append]; exact hown4); have HB4 := Lib.hid (((HB.out.alloc HB.out.size _).grown hgrow4 (by have := HB.out.size; simp; omega) (fun j hj => Gn.own_block HRW.out j hj))); clear hown4 hgrow4 hat4 hlt4)
          go_roundw
          case rel => exact ⟨k + 1, by omega, by simp, HO4.out, HB4.out⟩
          case measure => simp [intOf]; omega
        · obtain ⟨bq, rfl, y0, hbq⟩ := hget q hq
          rw [hv] at hbq
          subst hbq
          have hq0 : ¬ (q : Int) < 0 := by omega
          have hq1 : (q : Int) < (nn : Int) := by omega
          clear hv hget
          go_wp2_with (at_builtin; refine wpList_append_lies _ rfl _ _ 22 rfl W.heap.size 3 i0 _ 1 8 Try.underlying22 hi0 hz0 hz1 hz2 rfl (by decide) (.slice Au F.length cu) F.length _ rfl (HRW.out.alloc _) ⟨wr.heap.size, 0, none⟩ 1 1 [.int .i64 (q : Int)] rfl rfl (Gn.row_new _ [.int .i64 (q : Int)] _ _ rfl) (by simp [Value.oneCell']) (by decide) (by unfold maxLen; omega) (by omega) (by have := HB.out.size; simp; omega) _ rfl ?_; intro gq cap' w4 hown4 hgrow4 hat4 hlt4; have HO4 := Lib.hid (show w4.ownsRow W.heap.size 3 1 (.slice (some ⟨gq, 0, none⟩) (F.length + 1) cap') ((r.take (k + 1)).filter (fullB N)).length (((r.take (k + 1)).filter (fullB N)).map (Value.int .i64)) by rw [HT2.out, List.length_append, List.map_append]; exact hown4); have HB4 := Lib.hid (((HB.out.alloc HB.out.size _).grown hgrow4 (by have := HB.out.size; simp; omega) (fun j hj => Gn.own_block HRW.out j hj))); clear hown4 hgrow4 hat4 hlt4)
          go_roundw
          case rel => exact ⟨k + 1, by omega, by simp, HO4.out, HB4.out⟩
          case measure => simp [intOf]; omega
      · have HT2 := Lib.hid (show (r.take (k + 1)).filter (fullB N) = F by rw [HT.out, List.filter_cons_of_neg (by rw [hf]; decide)]; simp)
        obtain ⟨bq, rfl, y0, hbq⟩ := hget q hq
        rw [hv] at hbq
        subst hbq
        have hq0 : ¬ (q : Int) < 0 := by omega
        have hq1 : (q : Int) < (nn : Int) := by omega
        clear hf hv hget
        go_wp2
        go_roundw
        case rel => exact ⟨k + 1, by omega, by simp, by rw [HT2.out]; exact HRW.out, HB.out⟩
        case measure => simp [intOf]; omega
    · have HE := Lib.hid (show F = r.filter (fullB N) by rw [HF.out, List.take_of_length_le (by have := HN1.out; omega)])
      have hbe : ∀ m : Nat, ((m : Int) == 0) = decide (m = 0) ∧ ((m : Int) == 1) = decide (m = 1) := fun m => ⟨by rw [Bool.eq_iff_iff]; simp, by rw [Bool.eq_iff_iff]; simp; omega⟩
      rcases (show F.length = 0 ∨ F.length = 1 ∨ 2 ≤ F.length by omega) with hl | hl | hl
      · have HX := Lib.hid (show R = r by
          have e := List.eq_nil_of_length_eq_zero hl
          rw [HR.out, loneL, ← HE.out, e])
        have e0 : ((F.length : Int) == 0) = true := by rw [beq_iff_eq]; omega
        clear hl hbe
        go_wp2
        go_ret
        exact ⟨_, rfl, by rw [HX.out]; exact HRET.out _ HB.out, HB.out⟩
      · have HX := Lib.hid (show R = F by
          obtain ⟨s, hs⟩ := List.length_eq_one_iff.1 hl
          rw [HR.out, loneL, ← HE.out, hs])
        have e0 : ((F.length : Int) == 0) = false := by rw [beq_eq_false_iff_ne]; omega
        have e1 : ((F.length : Int) == 1) = true := by rw [beq_iff_eq]; omega
        have HI := Lib.hid ((IntsAt.of_own HRW.out).keep (Q := fun _ => True) (Nat.le_refl _) fun q _ _ => ⟨trivial, fun _ => rfl⟩)
        clear hl hbe
        go_wp2
        go_ret
        exact ⟨_, rfl, by rw [HX.out]; exact HI.out, HB.out⟩
      · have HX := Lib.hid (show R = [] by
          rw [HR.out, loneL, ← HE.out]
          match F, hl with
          | a :: b :: _, _ => rfl)
        have e0 : ((F.length : Int) == 0) = false := by rw [beq_eq_false_iff_ne]; omega
        have e1 : ((F.length : Int) == 1) = false := by rw [beq_eq_false_iff_ne]; omega
        clear hl hbe
        go_wp2
        go_ret
        exact ⟨_, rfl, by rw [HX.out]; exact IntsAt.nil _ _ _ _, HB.out⟩
end Go.Proofs.Ytlkijnglpllcdaa.Fx
