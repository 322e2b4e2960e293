/-
  Layer 27: Spoil.
-/
import Derived.Test.YtdkigbaodbkebaaNtG
namespace Go.Proofs.Ytdkigbaodbkebaa.Nt
open Go.RowKit
set_option maxRecDepth 100000
set_option linter.unusedSimpArgs false
set_option linter.unusedVariables false
theorem toList_beq (a b : ByteArray) : (a.toList == b.toList) = decide (bs a = bs b) := by
  rw [ByteArray.toList_eq, ByteArray.toList_eq, Bool.eq_iff_iff]; simp


/-- The bytes of two strings are the same, or they aren't: as the walk asks. -/
theorem empty_of {s : ByteArray} (h : s.size = 0) : s.toList.isEmpty = true := by
  rw [ByteArray.toList_eq, List.isEmpty_iff]
  have h1 : s.data.size = 0 := h
  rw [Array.eq_empty_of_size_eq_zero h1]
theorem empty_not {s : ByteArray} (h : ¬ s.size = 0) : s.toList.isEmpty = false := by
  rw [ByteArray.toList_eq, List.isEmpty_eq_false_iff]
  intro h2
  apply h
  have h1 := congrArg List.length h2
  simpa using h1
/-- A frame, spoilt; whether it is another one. -/
def spF (f : Fr) (a : Int) (v : Nat) : Fr × Bool :=
  if f.sp = true ∨ f.bytes.size = 0 then (f, false) else
  if bs (spT f.bytes (plN a f.bytes.size) v) = bs f.bytes then (f, false) else (⟨f.frm, f.dst, spT f.bytes (plN a f.bytes.size) v, true⟩, true)
/-- A list of frames of which one is spoilt. -/
def spL (fs : List Fr) (i a : Int) (v : Nat) : List Fr := fs.set (plN i fs.length) (spF (atF fs i) a v).1
def spB (fs : List Fr) (i a : Int) (v : Nat) : Bool := decide (0 < fs.length) && (spF (atF fs i) a v).2
theorem frsC_set (fs : List Fr) (p : Nat) (hp : p < fs.length) (t : ByteArray) (c : Bool) : ((frsC fs).set (p * 4 + 2) (.string t)).set (p * 4 + 3) (.bool c) = frsC (fs.set p ⟨fs[p].frm, fs[p].dst, t, c⟩) := by
  induction fs generalizing p with
  | nil => simp at hp
  | cons f l ih =>
    cases p with
    | zero => rfl
    | succ p =>
      have hp' : p < l.length := by simpa using hp
      rw [frsC_cons, List.set_cons_succ, frsC_cons]
      simp only [List.getElem_cons_succ]
      rw [← ih p hp']
      rw [List.set_append_right _ _ (by simp [frC]; omega), List.set_append_right _ _ (by simp [frC]; omega)]
      simp only [frC, List.length_cons, List.length_nil]
      rw [show (p + 1) * 4 + 2 - (0 + 1 + 1 + 1 + 1) = p * 4 + 2 by omega, show (p + 1) * 4 + 3 - (0 + 1 + 1 + 1 + 1) = p * 4 + 3 by omega]
section
variable {base b g : Nat} {fs : List Fr} {cap : Nat} {w w' : World}
theorem NSep.setRow (h : NSep base b w w') {cs : Array Value} {fr : Nat × Nat} (hg : w'.heap[g]? = some (.cells cs 35 fr)) (hb : base ≤ g) (i : Nat) (u : Value) : NSep base b w (w'.setCell ⟨g, i, none⟩ u) :=
  ⟨h.os, h.tape, h.output, by simpa [World.setCell] using h.size, fun k hk => (Below.heap_setCell _ _ _ _ (by simp only; omega)).trans (h.low k hk), fun T k cs2 fr2 hT hk hh => by
    have h2 := h.block T k cs2 fr2 hT hk hh
    refine (Below.heap_setCell _ _ _ _ ?_).trans h2
    intro he
    have he2 : k = g := he
    rw [he2, hg] at h2
    injection h2 with h2
    injection h2 with _ h3
    exact hT h3.symm⟩
/-- A frame's bytes and mark stored. -/
theorem NetX.spoil (h : NetX base b fs (some ⟨g, 0, none⟩) cap w) (p : Nat) (hp : p < fs.length) (t : ByteArray) (c : Bool) (hgb : g ≠ b) :
    NetX base b (fs.set p ⟨fs[p].frm, fs[p].dst, t, c⟩) (some ⟨g, 0, none⟩) cap ((w.setCell ⟨g, p * 4 + 2, none⟩ (.string t)).setCell ⟨g, p * 4 + 3, none⟩ (.bool c)) := by
  refine ⟨?_, ⟨by rw [frsC_len], ?_⟩, h.bb⟩
  · rw [Gn.set_keep _ _ _ hgb, Gn.set_keep _ _ _ hgb, h.box, List.length_set]
  · rcases h.row.2 with ⟨h1, _⟩ | ⟨g', cp, cur, h1, h2, h3, h4, h5, h6, h7⟩
    · cases h1
    · injection h1 with e1 _ e3
      injection e1 with e1
      injection e1 with e1
      subst e1 e3
      refine .inr ⟨g, cap, (cur.setIfInBounds (p * 4 + 2) (.string t)).setIfInBounds (p * 4 + 3) (.bool c), by rw [List.length_set], h2, Gn.heap_set (Gn.heap_set h3 _ _) _ _, by rw [List.length_set]; exact h4, h5, by simp [h6], ?_⟩
      rw [Array.toList_setIfInBounds, Array.toList_setIfInBounds, List.take_set, List.take_set, List.length_set, h7, frsC_set fs p hp]
end
/-- What Spoil leaves. -/
def SplT (base b : Nat) (fs : List Fr) (i a : Int) (v : Nat) (w : World) (e : Ending) (w' : World) : Prop := e = .returned (.bool (spB fs i a v)) ∧ NetAt base b (spL fs i a v) w' ∧ NSep base b w w'
theorem spoil_none (p : Value) (i a : Int) (v : Nat) (w : World) (hc : Calls Try.prog 13 #[p] w (IsN 0 w)) :
    Calls Try.prog 11 #[p, .int .i64 i, .int .i64 a, .int .u32 v] w (fun e w' => e = .returned (.bool false) ∧ Below w.heap.size w w') := by
  have HP := Lib.hid (place_none p w hc i)
  unfold plV at HP
  have hnt := not_run false w
  clear hc
  go_enter Try.func11, Try.ntmps11
  go_wp2_with fail
  refine HP.out.mono ?_
  rintro e w' ⟨rfl, rfl⟩
  go_wp2_with fail
  go_ret
  exact ⟨rfl, Below.refl _ _⟩
theorem spT_size (s : ByteArray) (A v : Nat) : (spT s A v).size = s.size := by
  unfold spT
  show (sp (bs s) A (turns v) _).length = _
  rw [sp_len, bs_length]
set_option maxHeartbeats 8000000 in
theorem spoil_any {base b : Nat} {fs : List Fr} {w : World} (h : NetAt base b fs w) (i a : Int) (v : Nat) (hn : fs.length ≤ 1024) (hb : base ≤ w.heap.size) (hz : ∀ f ∈ fs, f.bytes.size ≤ 2000000) :
    Calls Try.prog 11 #[.pointer (some ⟨b, 0, none⟩), .int .i64 i, .int .i64 a, .int .u32 v] w (SplT base b fs i a v w) := by
  obtain ⟨A, cap, h⟩ := h
  obtain ⟨n, hnn⟩ : ∃ n, n = fs.length := ⟨_, rfl⟩
  obtain ⟨p, hp⟩ : ∃ p, p = plN i n := ⟨_, rfl⟩
  have HP := Lib.hid (place_any h i hn)
  by_cases h0 : n = 0
  · have hl : fs = [] := List.eq_nil_of_length_eq_zero (by omega)
    subst hl
    unfold plV at HP
    have hnt := not_run false w
    have HTT := Lib.hid (show SplT base b [] i a v w (.returned (.bool false)) w from ⟨rfl, h.at_, NSep.refl _ _ _⟩)
    clear hn hnn hp h0 h hb hz
    go_enter Try.func11, Try.ntmps11
    go_wp2_with fail
    refine HP.out.mono ?_
    rintro e w' ⟨rfl, rfl⟩
    go_wp2_with fail
    go_ret
    exact HTT.out
  · have hp0 : p < n := by rw [hp]; exact plN_lt i (by omega)
    have hpl : p < fs.length := by rw [← hnn]; exact hp0
    obtain ⟨g, cur, rfl, hg, hbg, hgb, hnc, hcm, hcs, hct, hget⟩ := h.get p hpl
    obtain ⟨f0, hf0⟩ : ∃ x, x = fs[p].frm := ⟨_, rfl⟩
    obtain ⟨f1, hf1⟩ : ∃ x, x = fs[p].dst := ⟨_, rfl⟩
    obtain ⟨f2, hf2⟩ : ∃ x, x = fs[p].bytes := ⟨_, rfl⟩
    obtain ⟨f3, hf3⟩ : ∃ x, x = fs[p].sp := ⟨_, rfl⟩
    have hat : atF fs i = ⟨f0, f1, f2, f3⟩ := by rw [atF_some (by rw [hp, hnn]) hpl, hf0, hf1, hf2, hf3]
    have hsz2 : f2.size ≤ 2000000 := by rw [hf2]; exact hz _ (List.getElem_mem _)
    have e2 : w.cell? ⟨g, p * 4 + 2, none⟩ = some (.string f2) := by rw [cell_of_row _ _ (p * 4 + 2) _ _ (0, 0) hg, hget 2 (by omega), hf2]; rfl
    have e3 : w.cell? ⟨g, p * 4 + 3, none⟩ = some (.bool f3) := by rw [cell_of_row _ _ (p * 4 + 3) _ _ (0, 0) hg, hget 3 (by omega), hf3]; rfl
    have c0 := cell_of_row _ _ 0 _ _ (0, 0) h.box
    rw [← hnn] at c0
    have HPE := Lib.hid (show plV i fs.length = .tuple #[.int .i64 p, .bool true] by unfold plV; rw [← hnn, if_neg h0, decide_eq_true (by omega), ← hp])
    rw [HPE.out] at HP
    have hnt := not_run true w
    have hpc : (p : Int) < (n : Int) := by omega
    have hn9 : n ≤ 1024 := by omega
    have hself : fs.set p (atF fs i) = fs := by
      rw [hat, show (⟨f0, f1, f2, f3⟩ : Fr) = fs[p] by rw [hf0, hf1, hf2, hf3], List.set_getElem_self]
    have HSAME := Lib.hid (fun (hh : spF (atF fs i) a v = (atF fs i, false)) (w' : World) (hx : NetAt base b fs w') (hs : NSep base b w w') => show SplT base b fs i a v w (.returned (.bool false)) w' from by
      unfold SplT spB spL
      rw [hh, ← hnn, ← hp, hself, Bool.and_false]
      exact ⟨rfl, hx, hs⟩)
    have HDIFF := Lib.hid (fun (t : ByteArray) (hh : spF (atF fs i) a v = (⟨f0, f1, t, true⟩, true)) (w' : World) (hx : NetAt base b (fs.set p ⟨f0, f1, t, true⟩) w') (hs : NSep base b w w') => show SplT base b fs i a v w (.returned (.bool true)) w' from by
      unfold SplT spB spL
      rw [hh, ← hnn, ← hp, Bool.and_true, decide_eq_true (by omega)]
      exact ⟨rfl, hx, hs⟩)
    rw [hat] at HSAME HDIFF
    have HN := Lib.hid h
    have HG := Lib.hid hg
    have HGB := Lib.hid hgb
    have HBG := Lib.hid hbg
    have HSPO := Lib.hid (fun (t : ByteArray) (c : Bool) (w' : World) (hx : NetX base b fs (some ⟨g, 0, none⟩) cap w') => show NetAt base b (fs.set p ⟨f0, f1, t, c⟩) ((w'.setCell ⟨g, p * 4 + 2, none⟩ (.string t)).setCell ⟨g, p * 4 + 3, none⟩ (.bool c)) from by
      have := hx.spoil p hpl t c hgb
      rw [← hf0, ← hf1] at this
      exact this.at_)
    have HBW := Lib.hid hb
    have HSELF := Lib.hid hself
    have HAT := Lib.hid hat
    have HNN := Lib.hid hnn
    clear hnn hp h0 h hf0 hf1 hf2 hf3 hat hg hbg hgb hcs hct hget hb hn hz hself hpl
    cases f3 with
    | true =>
      have hh := HSAME.out (by unfold spF; rw [if_pos (.inl rfl)]) w HN.out.at_ (NSep.refl _ _ _)
      have HH := Lib.hid hh
      clear hh
      go_enter Try.func11, Try.ntmps11
      go_wp2_with fail
      refine HP.out.mono ?_
      rintro e w' ⟨rfl, rfl⟩
      go_wp2_with fail
      go_ret
      exact HH.out
    | false =>
      by_cases hs0 : f2.size = 0
      · have hh := HSAME.out (by unfold spF; rw [if_pos (.inr hs0)]) w HN.out.at_ (NSep.refl _ _ _)
        have HH := Lib.hid hh
        have hq := empty_of hs0
        clear hh
        go_enter Try.func11, Try.ntmps11
        go_wp2_with fail
        refine HP.out.mono ?_
        rintro e w' ⟨rfl, rfl⟩
        go_wp2_with fail
        go_ret
        exact HH.out
      · have hq := empty_not hs0
        obtain ⟨q, hqq⟩ : ∃ q, q = plN a f2.size := ⟨_, rfl⟩
        have hql : q < f2.size := by rw [hqq]; exact plN_lt a (by omega)
        have HR := Lib.hid (rem_any a f2.size (by omega) (by omega) w)
        have HT := Lib.hid (turned_any f2 q v w hql hsz2)
        obtain ⟨t, ht⟩ : ∃ t, t = spT f2 q v := ⟨_, rfl⟩
        rw [← hqq] at HR
        rw [← ht] at HT
        have hq2 : (t.toList == f2.toList) = decide (bs t = bs f2) := toList_beq t f2
        have HSA := Lib.hid (fun (hh : bs t = bs f2) => HSAME.out (by unfold spF; simp only [Bool.false_eq_true, false_or]; rw [if_neg hs0, ← hqq, ← ht, if_pos hh]))
        have HDI := Lib.hid (fun (hh : ¬ bs t = bs f2) => HDIFF.out t (by unfold spF; simp only [Bool.false_eq_true, false_or]; rw [if_neg hs0, ← hqq, ← ht, if_neg hh]))
        have HSELF2 := Lib.hid (show fs.set p ⟨f0, f1, f2, false⟩ = fs by rw [← HAT.out]; exact HSELF.out)
        clear hqq ht HSAME HDIFF hs0
        go_enter Try.func11, Try.ntmps11
        go_wp2_with fail
        refine HP.out.mono ?_
        rintro e w' ⟨rfl, rfl⟩
        go_wp2_with fail
        refine HR.out.mono ?_
        rintro e w' ⟨rfl, rfl⟩
        go_wp2_with fail
        refine HT.out.mono ?_
        rintro e w2 ⟨rfl, hb2⟩
        have HN2 := Lib.hid (HN.out.below hb2)
        have hG2 := (hb2.block _ (Gn.heap_lt HG.out)).trans HG.out
        have HS2 := Lib.hid (NSep.of_below hb2 HBW.out (b := b))
        have fz2 := Gn.frozen_row hG2 (p * 4 + 2)
        have cz2 := (hb2.cell (p := ⟨g, p * 4 + 2, none⟩) (Gn.heap_lt HG.out)).trans e2
        have cz3 := (hb2.cell (p := ⟨g, p * 4 + 3, none⟩) (Gn.heap_lt HG.out)).trans e3
        have HG2 := Lib.hid hG2
        clear hb2 hG2 e2 e3 c0
        go_upto_region 7 with fail
        obtain ⟨w3, hw3⟩ : ∃ x, x = w2.setCell ⟨g, p * 4 + 2, none⟩ (.string t) := ⟨_, rfl⟩
        rw [← hw3]
        have hG3 : w3.heap[g]? = some (.cells (cur.setIfInBounds (p * 4 + 2) (.string t)) 35 (0, 0)) := by rw [hw3]; exact Gn.heap_set HG2.out _ _
        have e2 : w3.cell? ⟨g, p * 4 + 2, none⟩ = some (.string t) := by
          rw [cell_of_row _ _ _ _ _ _ hG3]
          have hlt : p * 4 + 2 < cur.size := by
            have h8 := cell_of_row _ _ (p * 4 + 2) _ _ (0, 0) HG2.out
            rw [cz2] at h8
            exact (Array.getElem?_eq_some_iff.1 h8.symm).1
          simp [hlt]
        have e3 : w3.cell? ⟨g, p * 4 + 3, none⟩ = some (.bool false) := by
          rw [cell_of_row _ _ _ _ _ _ hG3, Array.getElem?_setIfInBounds_ne (by omega)]
          rw [cell_of_row _ _ _ _ _ _ HG2.out] at cz3
          exact cz3
        have fz3 := Gn.frozen_row hG3 (p * 4 + 3)
        have HG3 := Lib.hid hG3
        have HW3 := Lib.hid hw3
        clear hG3 hw3 fz2 cz2 cz3
        by_cases hh : bs t = bs f2
        · have HA := Lib.hid (HSA.out hh)
          rw [decide_eq_true hh] at hq2
          have hte : t = f2 := by
            cases t; cases f2
            congr 1
            exact Array.ext' hh
          have HTE := Lib.hid hte
          clear hh hte
          go_upto_region 8 with fail
          obtain ⟨w4, hw4⟩ : ∃ x, x = w3.setCell ⟨g, p * 4 + 3, none⟩ (.bool false) := ⟨_, rfl⟩
          rw [← hw4]
          have hG4 := Gn.heap_set HG3.out (p * 4 + 3) (.bool false)
          rw [← hw4] at hG4
          have e4 : w4.cell? ⟨g, p * 4 + 3, none⟩ = some (.bool false) := by
            rw [cell_of_row _ _ _ _ _ _ hG4]
            have hlt : p * 4 + 3 < (cur.setIfInBounds (p * 4 + 2) (.string t)).size := by
              have h8 := cell_of_row _ _ (p * 4 + 3) _ _ (0, 0) HG3.out
              rw [e3] at h8
              exact (Array.getElem?_eq_some_iff.1 h8.symm).1
            rw [Array.getElem?_setIfInBounds_self_of_lt hlt]
          have HS4 := Lib.hid (show NSep base b w w4 from by
            rw [hw4]
            refine NSep.setRow (g := g) ?_ HG3.out HBG.out _ _
            rw [HW3.out]
            exact NSep.setRow (g := g) HS2.out HG2.out HBG.out _ _)
          have HX4 := Lib.hid (show NetAt base b (fs.set p ⟨f0, f1, t, false⟩) w4 from by
            rw [hw4, HW3.out]
            exact HSPO.out t false w2 HN2.out)
          clear hG4 hw4 e3 fz3
          go_wp2_with fail
          go_ret
          exact HA.out w4 (by have := HX4.out; rw [HTE.out, HSELF2.out] at this; exact this) HS4.out
        · have HA := Lib.hid (HDI.out hh)
          rw [decide_eq_false hh] at hq2
          clear hh
          go_upto_region 8 with fail
          obtain ⟨w4, hw4⟩ : ∃ x, x = w3.setCell ⟨g, p * 4 + 3, none⟩ (.bool true) := ⟨_, rfl⟩
          rw [← hw4]
          have hG4 := Gn.heap_set HG3.out (p * 4 + 3) (.bool true)
          rw [← hw4] at hG4
          have e4 : w4.cell? ⟨g, p * 4 + 3, none⟩ = some (.bool true) := by
            rw [cell_of_row _ _ _ _ _ _ hG4]
            have hlt : p * 4 + 3 < (cur.setIfInBounds (p * 4 + 2) (.string t)).size := by
              have h8 := cell_of_row _ _ (p * 4 + 3) _ _ (0, 0) HG3.out
              rw [e3] at h8
              exact (Array.getElem?_eq_some_iff.1 h8.symm).1
            rw [Array.getElem?_setIfInBounds_self_of_lt hlt]
          have HS4 := Lib.hid (show NSep base b w w4 from by
            rw [hw4]
            refine NSep.setRow (g := g) ?_ HG3.out HBG.out _ _
            rw [HW3.out]
            exact NSep.setRow (g := g) HS2.out HG2.out HBG.out _ _)
          have HX4 := Lib.hid (show NetAt base b (fs.set p ⟨f0, f1, t, true⟩) w4 from by
            rw [hw4, HW3.out]
            exact HSPO.out t true w2 HN2.out)
          clear hG4 hw4 e3 fz3
          go_wp2_with fail
          go_ret
          exact HA.out w4 HX4.out HS4.out
end Go.Proofs.Ytdkigbaodbkebaa.Nt
