/-
  The walk of terminals.
-/
import Derived.Test.YtlkijnglpllcdaaFxLoops
import Derived.Maps.RangeWalk
namespace Go.Proofs.Ytlkijnglpllcdaa.Fx
open Go.RowKit
set_option maxRecDepth 100000
set_option linter.unusedSimpArgs false

/-- Within terminals: what is still to come, what has been told. -/
structure TermAt (M : List Int) (K0 : Nat) (left : Lit → Bool) (l : List Int) (cnt : Nat) : Prop where
  sub : ∀ x, left (.int .i64 x) = true → x ∈ M
  told : ∀ t, t ∈ l ↔ ∃ x ∈ M, x < 0 ∧ left (.int .i64 x) = false ∧ t = -1 - x
  nodup : l.Nodup
  room : l.length + cnt ≤ K0
theorem left_int (left : Lit → Bool) (x y : Int) : (left (.int .i64 y) && !(Lit.int .i64 y).sameKey (.int .i64 x)) = if y = x then false else left (.int .i64 y) := by
  by_cases e : y = x
  · subst e
    rw [WideAt.sameKey_self (key_int y), if_pos rfl]; simp
  · rw [if_neg e]
    cases h : (Lit.int .i64 y).sameKey (.int .i64 x)
    · simp
    · exact absurd (by have := WideAt.sameKey_eq h; injection this) e
theorem TermAt.pos {M : List Int} {K0 : Nat} {left : Lit → Bool} {l : List Int} {cnt cnt' : Nat} (h : TermAt M K0 left l cnt) (x : Int) (hx : ¬ x < 0) (hc : cnt' < cnt) : TermAt M K0 (fun z => left z && !z.sameKey (.int .i64 x)) l cnt' := by
  refine ⟨fun y hy => h.sub y (by simp at hy; exact hy.1), fun t => ?_, h.nodup, by have := h.room; omega⟩
  rw [h.told]
  constructor
  · rintro ⟨y, h1, h2, h3, h4⟩
    exact ⟨y, h1, h2, by simp only [left_int]; split <;> first | rfl | exact h3, h4⟩
  · rintro ⟨y, h1, h2, h3, h4⟩
    have h3 := (left_int left x y).symm.trans h3
    rw [if_neg (by omega)] at h3
    exact ⟨y, h1, h2, h3, h4⟩
theorem TermAt.neg {M : List Int} {K0 : Nat} {left : Lit → Bool} {l : List Int} {cnt cnt' : Nat} (h : TermAt M K0 left l cnt) (x : Int) (hx : x < 0) (hl : left (.int .i64 x) = true) (hc : cnt' < cnt) : TermAt M K0 (fun z => left z && !z.sameKey (.int .i64 x)) (l ++ [-1 - x]) cnt' := by
  refine ⟨fun y hy => h.sub y (by simp at hy; exact hy.1), fun t => ?_, ?_, by have := h.room; simp; omega⟩
  · rw [List.mem_append, h.told, List.mem_singleton]
    constructor
    · rintro (⟨y, h1, h2, h3, h4⟩ | rfl)
      · exact ⟨y, h1, h2, by simp only [left_int]; split <;> first | rfl | exact h3, h4⟩
      · exact ⟨x, h.sub x hl, hx, by simp [left_int], rfl⟩
    · rintro ⟨y, h1, h2, h3, h4⟩
      have h3 := (left_int left x y).symm.trans h3
      by_cases e : y = x
      · subst e; exact .inr h4
      · rw [if_neg e] at h3
        exact .inl ⟨y, h1, h2, h3, h4⟩
  · rw [List.nodup_append]
    refine ⟨h.nodup, by simp, fun a ha b hb => ?_⟩
    rw [List.mem_singleton] at hb
    subst hb
    intro e
    obtain ⟨y, h1, h2, h3, h4⟩ := (h.told a).1 ha
    have : y = x := by omega
    subst this
    rw [hl] at h3
    cases h3

/-- The terminals of a set, rising. -/
def TermsOf (M : List Int) (l : List Int) : Prop := l.Pairwise (· < ·) ∧ ∀ t, t ∈ l ↔ 0 ≤ t ∧ (-1 - t) ∈ M
theorem terms_sort {M : List Int} {K0 cnt : Nat} {left : Lit → Bool} {l : List Int} (h : TermAt M K0 left l cnt) (hl : ∀ kl, left kl = false) : TermsOf M (l.mergeSort fun x y => decide (x ≤ y)) := by
  have hp := List.mergeSort_perm l (fun x y => decide (x ≤ y))
  refine ⟨?_, fun t => ?_⟩
  · have h1 : (l.mergeSort fun x y => decide (x ≤ y)).Pairwise (fun a b => decide (a ≤ b) = true) := List.pairwise_mergeSort (fun a b c h1 h2 => by simp at *; omega) (fun a b => by simp; omega) l
    have h2 : (l.mergeSort fun x y => decide (x ≤ y)).Nodup := hp.nodup_iff.2 h.nodup
    refine List.Pairwise.imp₂ (R := fun a b => decide (a ≤ b) = true) (S := (· ≠ ·)) (fun a b h3 h4 => ?_) h1 h2
    simp at h3; omega
  · rw [hp.mem_iff, h.told]
    constructor
    · rintro ⟨x, h1, h2, _, rfl⟩
      exact ⟨by omega, by rw [show -1 - (-1 - x) = x by omega]; exact h1⟩
    · rintro ⟨h1, h2⟩
      exact ⟨-1 - t, h2, by omega, hl _, by omega⟩
theorem own_holds {w : World} {base g n c : Nat} {l : List Int} (h : w.ownsRow base 3 1 (.slice (some ⟨g, 0, none⟩) n c) n (l.map (Value.int .i64))) : Go.Sort.Holds (Value.int .i64) w g 0 l.toArray := fun j hj => by
  have hj2 : j < l.length := by simpa using hj
  have h1 := h.cells (g := g) rfl j (.int .i64 l[j]) (by simp [hj2])
  rw [Gn.add_row] at h1
  rw [Nat.zero_add]
  refine ⟨by rw [h1]; simp [hj2], ?_⟩
  rcases h.2 with ⟨h2, _⟩ | ⟨g2, cp, cur, h2, _, h4, _⟩
  · injection h2 with h2; cases h2
  · injection h2 with e1
    injection e1 with e1
    injection e1 with e1
    subst e1
    simp [World.frozen?, h4]
/-- A row sorted in its place: the numbers, sorted; all else as it was. -/
theorem sorted_ints {w : World} {base g n c : Nat} {l l' : List Int} (h : w.ownsRow base 3 1 (.slice (some ⟨g, 0, none⟩) n c) n (l.map (Value.int .i64))) (hl : l'.length = l.length) (k : Nat) (os : Array Obj) :
    IntsAt (fun b => base ≤ b) (Go.Sort.grow (Go.Sort.putRow (Value.int .i64) (Go.Sort.ahead w k) g 0 l'.toArray) os) l' (.slice (some ⟨g, 0, none⟩) n c) ∧ Below base w (Go.Sort.grow (Go.Sort.putRow (Value.int .i64) (Go.Sort.ahead w k) g 0 l'.toArray) os) := by
  have hb : base ≤ g ∧ g < w.heap.size := own_base h rfl
  have hn : n = l.length := by have := h.1; simp at this; omega
  have hc := own_cap h
  have hh := own_holds h
  refine ⟨⟨_, c, g, by rw [hl, ← hn], by omega, fun _ => ⟨rfl, by simp; omega, hb.1⟩, fun i hi => ?_⟩, ⟨rfl, rfl, rfl, by simp, fun j hj => ?_⟩⟩
  · rw [Go.Sort.cell?_grow _ _ _ (by simpa using hb.2)]
    have := Go.Sort.cell?_putRow (Value.int .i64) (Go.Sort.ahead w k) g 0 l.toArray l'.toArray (Go.Sort.holds_ahead _ _ _ _ _ _ hh) (by simp [hl]) i (by simpa using hi)
    rw [Nat.zero_add] at this
    rw [this]
    simp [hi]
  · rw [Go.Sort.heap_grow_old _ _ (by simp; omega)]
    simp only [Go.Sort.putRow, Go.Sort.mapBlock, Array.getElem?_modify]
    rw [if_neg (by omega)]
    rfl
theorem key_inv (key : Value) (kl : Lit) (h : keyOf Try.prog 3 key = some kl) : ∃ x : Int, key = .int .i64 x := by
  obtain ⟨x, rfl, _⟩ := Maps.keyOf_int_inv Try.underlying3 h
  exact ⟨x, rfl⟩
theorem unit_inv (v : Value) (y : DataW Unit × List MemPlace) (h : unitElem v = some y) : ∃ _ : Unit, v = .agg #[] := ⟨(), (unitElem_inv h).1⟩

set_option maxHeartbeats 4000000 in
theorem terminals_any (M : List Int) (K0 b : Nat) (hK : K0 ≤ 4398046511104) (hk : ∀ x ∈ M, -1048577 ≤ x ∧ x ≤ 1048577) (W : World) (hm : W.ownsMap Try.prog 3 unitElem b K0 (setD M)) :
    Calls Try.prog 31 #[.map (some b)] W fun e w' => ∃ u l, e = .returned u ∧ TermsOf M l ∧ IntsAt (fun q => W.heap.size ≤ q) w' l u ∧ Below W.heap.size W w' := by
  have HSZ := Lib.hid hm.size_le
  have HLT := Lib.hid hm.lt
  have HKM := Lib.hid hk
  have KS := Lib.hid Try.slices_Sort_int
  have KN := Lib.hid Try.slices_Sort_int_none
  have HM := Lib.hid hm
  obtain ⟨i0, hi0, hz0, hz1, hz2⟩ := info_parts iinfo
  clear hm hk
  go_enter Try.func31, Try.ntmps31
  go_wp2_with (at_range; refine wpList_range_own _ rfl _ 60 rfl 3 62 (Maps.int_keyed Try.underlying3) Try.underlying60 unitElem b K0 (setD M) rfl HM.out ?_; intro w0 hrg0 hg0 hs0; have HRG := Lib.hid hrg0; have HG0 := Lib.hid hg0; have HS0 := Lib.hid hs0; clear hrg0 hg0 hs0)
  go_frame
  go_loopw [3] (fun u wr => ∃ left cnt l, wr.ranges Try.prog 3 unitElem b W.heap.size K0 (setD M) left cnt ∧ TermAt M K0 left l cnt ∧ wr.ownsRow (W.heap.size + 1) 3 1 u l.length (l.map (Value.int .i64)) ∧ Below W.heap.size W wr) (fun _ wr => wr.rangeLeft b W.heap.size)
  case atStart =>
    exact ⟨_, _, [], HRG.out, ⟨fun x hx => by rw [setD_has, decide_eq_true_iff] at hx; exact hx, fun t => ⟨fun h => absurd h (by simp), fun h => by obtain ⟨x, h1, _, h3, _⟩ := h; rw [setD_has, decide_eq_true h1] at h3; cases h3⟩, List.nodup_nil, by simpa using HSZ.out⟩, World.ownsRow_nil _ _ _ _, (Below.refl _ _).grown HG0.out (Nat.le_refl _) (fun j e => by cases e)⟩
  case round =>
    obtain ⟨left, cnt, l, hrg, hta, hrow, hbel⟩ := hrel
    obtain ⟨Au, cu, rfl⟩ := Gn.slice_of hrow
    have HRG1 := Lib.hid hrg
    have HTA := Lib.hid hta
    have HROW := Lib.hid hrow
    have HB := Lib.hid hbel
    have hll : l.length ≤ K0 := by have := hta.room; omega
    clear hrg hta hrow hbel
    go_wp2_with (first
      | (at_next; refine wpList_next_ranges _ rfl _ rfl 3 (Maps.int_keyed Try.underlying3) unitElem (Value.int .i64) (fun _ : Unit => Value.agg #[]) key_inv unit_inv b W.heap.size K0 _ _ _ rfl HRG1.out ?_ ?_))
    · intro _ hl0
      have HL0 := Lib.hid hl0
      clear hl0
      rcases Nat.eq_zero_or_pos l.length with h0 | h0
      · have hnil := List.eq_nil_of_length_eq_zero h0
        subst hnil
        have HT := Lib.hid (terms_sort HTA.out HL0.out)
        go_wp2_with fail
        refine (KN.out _ _ _).mono ?_
        rintro e w3 ⟨rfl, rfl⟩
        go_wp2
        go_ret
        exact ⟨_, _, rfl, HT.out, by simp only [List.mergeSort_nil]; exact IntsAt.nil _ _ _ _, HB.out⟩
      · have HT := Lib.hid (terms_sort HTA.out HL0.out)
        obtain ⟨g, cap, e1, hg1, hg2⟩ := HROW.out.form h0
        have HROW2 := Lib.hid (e1 ▸ HROW.out)
        injection e1 with eA _ ec
        subst eA
        subst ec
        have KC := Lib.hid (KS.out g 0 cu l wr (own_holds HROW2.out) hg2 (by omega))
        have HS2 := Lib.hid (fun k os => sorted_ints HROW2.out (l' := l.mergeSort fun x y => decide (x ≤ y)) (List.length_mergeSort _) k os)
        go_wp2_with fail
        refine KC.out.mono ?_
        rintro e w3 ⟨rfl, k, os, rfl⟩
        obtain ⟨h5, h6⟩ := HS2.out k os
        have H5 := Lib.hid h5
        have H6 := Lib.hid h6
        clear h5 h6
        go_wp2
        go_ret
        exact ⟨_, _, rfl, HT.out, H5.out.keep (Nat.le_refl _) (fun q hq _ => ⟨by omega, fun _ => rfl⟩), HB.out.trans (H6.out.mono (by omega))⟩
    · intro x kl y ps w2 cnt2 hkey hlk hv hat hrg2 hlt hg2 hs2 hen
      obtain ⟨x', ex, rfl, hwx⟩ := Maps.keyOf_int_inv Try.underlying3 hkey
      cases ex
      have hxm := HTA.out.sub x hlk
      obtain ⟨hx1, hx2⟩ := HKM.out x hxm
      have hrow2 := own_of_block HROW.out (W' := w2) fun q hq => hg2.block q (own_base HROW.out hq).2 (fun e => by have := (own_base HROW.out hq).1; cases e; omega)
      have hb2 := HB.out.grown hg2 HB.out.size (fun j e => by cases e; exact Nat.le_refl _)
      have HMO := Lib.hid (show wr.rangeLeft b W.heap.size = cnt from HRG1.out.left_eq)
      have HRG2 := Lib.hid hrg2
      have HROW2 := Lib.hid hrow2
      have HB2 := Lib.hid hb2
      have HCL := Lib.hid hlt
      have HOB := Lib.hid (fun q (hq : (Value.slice Au l.length cu).ownBlock = some q) => own_base HROW.out hq)
      by_cases h0 : x < 0
      · have HTA2 := Lib.hid (HTA.out.neg x h0 hlk hlt)
        clear hkey hlk hv hat hrg2 hlt hg2 hs2 hrow2 hb2 hxm hwx HROW HB HRG1 HTA
        have hw1 : IntKind.i64.wrap (-1 - x) = -1 - x := IntWalk.i64_in _ (by omega)
        go_wp2_with (at_builtin; refine wpList_append_lies _ rfl _ _ 22 rfl (W.heap.size + 1) 3 i0 _ 1 8 Try.underlying22 hi0 hz0 hz1 hz2 rfl (by decide) (.slice Au l.length cu) l.length _ rfl (HROW2.out.alloc _) ⟨w2.heap.size, 0, none⟩ 1 1 [.int .i64 (-1 - x)] rfl rfl (Gn.row_new _ [.int .i64 (-1 - x)] _ _ rfl) (by simp [Value.oneCell']) (by decide) (by unfold maxLen; omega) (by omega) (by have := HRG2.out.lt; simp; omega) _ rfl ?_; intro gq cap' w4 hown4 hgrow4 hat4 hlt4; have HO4 := Lib.hid hown4; have HG4 := Lib.hid hgrow4; clear hown4 hgrow4 hat4 hlt4)
        have hrg4 := (HRG2.out.alloc (.cells #[.int .i64 (-1 - x)] 3)).kept HG4.out (fun e => by have := (HOB.out b e.symm).1; have := HLT.out; omega) (fun e => by have := (HOB.out _ e.symm).1; omega)
        have H4 := Lib.hid hrg4
        have HB4 := Lib.hid ((HB2.out.alloc HB2.out.size (.cells #[.int .i64 (-1 - x)] 3)).grown HG4.out (by have := HB2.out.size; simp; omega) (fun j hj => by have := (HOB.out j hj).1; omega))
        clear hrg4
        go_roundw
        case rel => exact ⟨_, cnt2, l ++ [-1 - x], H4.out, HTA2.out, by rw [List.length_append, List.map_append]; exact HO4.out, HB4.out⟩
        case measure =>
          rw [H4.out.left_eq, HMO.out]
          exact HCL.out
      · have HTA2 := Lib.hid (HTA.out.pos x h0 hlt)
        clear hkey hlk hv hat hrg2 hlt hg2 hs2 hrow2 hb2 hxm hwx HROW HB HRG1 HTA
        go_wp2
        go_roundw
        case rel => exact ⟨_, cnt2, l, HRG2.out, HTA2.out, HROW2.out, HB2.out⟩
        case measure =>
          rw [HRG2.out.left_eq, HMO.out]
          exact HCL.out
end Go.Proofs.Ytlkijnglpllcdaa.Fx
