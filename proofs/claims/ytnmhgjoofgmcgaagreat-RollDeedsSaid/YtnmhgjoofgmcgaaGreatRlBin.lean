/-
  Layer 18: slices.BinarySearch of names; has.
-/
import Derived.Test.YtnmhgjoofgmcgaaGreatRlMember
namespace Go.Proofs.YtnmhgjoofgmcgaaGreat.Rl
open Go.RowKit
open Fx (StrsAt)
set_option maxRecDepth 100000
set_option linter.unusedSimpArgs false
set_option linter.unusedVariables false
theorem less_cmp : ∀ l k : List UInt8, Op.bytesLess l k = decide (cmpL l k < 0)
  | [], [] => rfl
  | [], _ :: _ => rfl
  | _ :: _, [] => rfl
  | a :: r, b :: s => by
    have e : cmpL (a :: r) (b :: s) = if a < b then -1 else if b < a then 1 else cmpL r s := rfl
    have f : Op.bytesLess (a :: r) (b :: s) = _ := rfl
    rw [e, Op.bytesLess]
    have ih := less_cmp r s
    by_cases h1 : a < b
    · simp [h1]
    · by_cases h2 : b < a
      · have hne : ¬ a = b := fun e => by rw [e] at h2; exact absurd h2 (by simp)
        simp [h1, h2, hne]
      · have : a = b := UInt8.le_antisymm (UInt8.not_lt.1 h2) (UInt8.not_lt.1 h1)
        subst this
        simp [ih]
theorem nan_any (s : ByteArray) (W : World) : Calls Tryz.prog 122 #[.string s] W fun e w' => e = .returned (.bool false) ∧ ∃ q, w' = W.drewN q := by
  go_enter Tryz.func122, Tryz.ntmps122
  go_wp2
  go_ret
  exact ⟨by simp, 0, rfl⟩
set_option maxHeartbeats 2000000 in
theorem less_any (s t : ByteArray) (W : World) : Calls Tryz.prog 110 #[.string s, .string t] W fun e w' => e = .returned (.bool (decide (cmpN s t < 0))) ∧ Below W.heap.size W w' := by
  have HN := Lib.hid (fun w => nan_any s w)
  have HL := Lib.hid (show Op.bytesLess s.toList t.toList = decide (cmpN s t < 0) by rw [less_cmp, Lib.toList_data, Lib.toList_data]; rfl)
  go_enter Tryz.func110, Tryz.ntmps110
  go_wp2_with fail
  refine (HN.out W).mono ?_
  rintro e w2 ⟨rfl, q, rfl⟩
  go_wp2
  go_ret
  exact ⟨congrArg (fun b => Ending.returned (Value.bool b)) HL.out, Gn.below_drewN (Below.refl _ _) _⟩
theorem snan_any (s : ByteArray) (W : World) : Calls Tryz.prog 111 #[.string s] W fun e w' => e = .returned (.bool false) ∧ ∃ q, w' = W.drewN q := by
  go_enter Tryz.func111, Tryz.ntmps111
  go_wp2
  go_ret
  exact ⟨by simp, 0, rfl⟩
/-- What a search among names tells. -/
def BinOut (l : List ByteArray) (x : ByteArray) (W : World) (e : Ending) (w' : World) : Prop := e = .returned (.tuple #[.int .i64 (plc l x : Nat), .bool (hasN l x)]) ∧ Below W.heap.size W w'
theorem bin_done {l : List ByteArray} {x : ByteArray} (hs : Rising l) {k : Nat} {f : Bool} (hk : k ≤ l.length) (h1 : ∀ h : 0 < k, ∀ hk : k - 1 < l.length, cmpN l[k - 1] x < 0) (h2 : ∀ h : k < l.length, 0 ≤ cmpN l[k] x) (hf : ∀ h : k < l.length, f = decide (cmpN x l[k] = 0)) (hf2 : k = l.length → f = false) : k = plc l x ∧ f = hasN l x := by
  have hp : k = plc l x := plc_of l x k hs hk (fun h hk9 => by have := h1 h hk9; rw [cmpN_neg l[k - 1]]; omega) (fun h => by have := h2 h; rw [cmpN_neg l[k]]; omega)
  refine ⟨hp, ?_⟩
  have hm := plc_mem l x hs
  rw [← hp] at hm
  rw [Bool.eq_iff_iff, hasN_iff, ← hm]
  by_cases hkn : k < l.length
  · rw [hf hkn, decide_eq_true_iff]
    exact ⟨fun h => ⟨hkn, h⟩, fun ⟨_, h⟩ => h⟩
  · rw [hf2 (by omega)]
    exact ⟨fun h => (by cases h), fun ⟨h, _⟩ => absurd h hkn⟩
set_option maxHeartbeats 8000000 in
theorem bin_any (l : List ByteArray) (x : ByteArray) (P : Nat → Prop) (W : World) (v : Value) (h : StrsAt P W l v) (hs : Rising l) (hn : l.length ≤ 4096) : Calls Tryz.prog 90 #[v, .string x] W (BinOut l x W) := by
  obtain ⟨A, cap, b, rfl, hcap, hA, hc⟩ := h
  obtain ⟨n, hnn⟩ : ∃ n, n = l.length := ⟨_, rfl⟩
  rw [← hnn] at hA hn ⊢
  have HL := Lib.hid (fun s t w => less_any s t w)
  have HN := Lib.hid (fun s w => snan_any s w)
  have HA := Lib.hid hA
  have HC := Lib.hid hc
  have HNN := Lib.hid hnn
  have HS := Lib.hid hs
  clear hA hc hnn hs hcap
  go_enter Tryz.func90, Tryz.ntmps90
  go_upto_block 0 with fail
  go_wp2_with fail
  go_loopw [7, 8] (fun i j wr => ∃ a c : Nat, i = .int .i64 a ∧ j = .int .i64 c ∧ a ≤ c ∧ c ≤ n ∧ (∀ h : 0 < a, ∀ hk : a - 1 < l.length, cmpN l[a - 1] x < 0) ∧ (∀ h : c < l.length, 0 ≤ cmpN l[c] x) ∧ Below W.heap.size W wr) (fun i j _ => (intOf j - intOf i).toNat)
  case atStart => exact ⟨0, n, rfl, rfl, Nat.zero_le _, Nat.le_refl _, fun h => absurd h (by omega), fun h => absurd h (by have := HNN.out; omega), Below.refl _ _⟩
  case round =>
    obtain ⟨a, c, rfl, rfl, hac, hcn, h1, h2, hb⟩ := hrel
    have H1 := Lib.hid h1
    have H2 := Lib.hid h2
    have HB := Lib.hid hb
    clear h1 h2 hb
    by_cases hlt : a < c
    · have hlt2 : (a : Int) < (c : Int) := by omega
      obtain ⟨hh, hhd⟩ : ∃ hh, hh = (a + c) / 2 := ⟨_, rfl⟩
      have hh2 : ((a : Int) + (c : Int)) / 2 = (hh : Int) := by omega
      have hah : a ≤ hh := by omega
      have hhc : hh < c := by omega
      have hhn : (hh : Int) < (n : Int) := by omega
      have hhl : hh < l.length := by rw [← HNN.out]; omega
      obtain ⟨rfl, hbz, _⟩ := HA.out (by omega)
      have k0 := (HB.out.cell (p := ⟨b, hh, none⟩) hbz).trans (HC.out hh hhl)
      obtain ⟨y, hy⟩ : ∃ y, y = l[hh] := ⟨_, rfl⟩
      rw [← hy] at k0
      have HY := Lib.hid hy
      clear hhd hy
      go_wp2_with fail
      refine (HL.out y x wr).mono ?_
      rintro e w2 ⟨rfl, hb2⟩
      have HB2 := Lib.hid (HB.out.trans (hb2.mono HB.out.size))
      clear hb2 k0 hh2
      by_cases h0 : cmpN y x < 0
      · have h00 : decide (cmpN y x < 0) = true := decide_eq_true h0
        have hw2 : IntKind.i64.wrap ((hh : Int) + 1) = ((hh + 1 : Nat) : Int) := IntWalk.i64_in _ (by omega)
        go_wp2_with fail
        go_roundw
        case rel => exact ⟨hh + 1, c, by go_num, rfl, by omega, hcn, fun _ hk => by simp only [Nat.add_sub_cancel]; rw [← HY.out]; exact h0, H2.out, HB2.out⟩
        case measure => simp [intOf]; omega
      · have h00 : decide (cmpN y x < 0) = false := decide_eq_false h0
        go_wp2_with fail
        go_roundw
        case rel => exact ⟨a, hh, rfl, rfl, hah, by omega, H1.out, fun _ => by rw [← HY.out]; omega, HB2.out⟩
        case measure => simp [intOf]; omega
    · have hlt2 : ¬ (a : Int) < (c : Int) := by omega
      have hae : a = c := by omega
      subst hae
      by_cases han : a < n
      · have han2 : (a : Int) < (n : Int) := by omega
        have hal : a < l.length := by rw [← HNN.out]; exact han
        obtain ⟨rfl, hbz, _⟩ := HA.out (by omega)
        have k0 := (HB.out.cell (p := ⟨b, a, none⟩) hbz).trans (HC.out a hal)
        obtain ⟨y, hy⟩ : ∃ y, y = l[a] := ⟨_, rfl⟩
        rw [← hy] at k0
        have hd := fun f (hf : f = decide (cmpN x y = 0)) => bin_done (f := f) HS.out (x := x) (k := a) (by omega) H1.out H2.out (fun _ => by rw [hf, hy]) (fun e => by omega)
        have HD := Lib.hid hd
        clear hd hy hal
        by_cases heq : y = x
        · subst heq
          obtain ⟨e1, e2⟩ := HD.out true (by rw [cmpN_self]; rfl)
          have HFI := Lib.hid (fun w (b : Below W.heap.size W w) => show BinOut l y W (.returned (.tuple #[.int .i64 a, .bool true])) w from ⟨by rw [e1, ← e2, ← e1], b⟩)
          have hq : (y.toList == y.toList) = true := by simp
          clear e1 e2
          go_wp2_with fail
          go_ret2
          exact HFI.out _ HB.out
        · obtain ⟨e1, e2⟩ := HD.out false (by rw [eq_comm, decide_eq_false_iff_not]; exact fun e => heq (cmpN_eq e).symm)
          have HFI := Lib.hid (fun w (b : Below W.heap.size W w) => show BinOut l x W (.returned (.tuple #[.int .i64 a, .bool false])) w from ⟨by rw [e1, ← e2, ← e1], b⟩)
          have hq : (y.toList == x.toList) = false := by
            rw [Bool.eq_false_iff]
            intro e
            apply heq
            have e := eq_of_beq e
            rw [Lib.toList_data, Lib.toList_data] at e
            cases y; cases x
            simpa using e
          clear e1 e2
          go_wp2_with fail
          refine (HN.out y wr).mono ?_
          rintro e w2 ⟨rfl, q, rfl⟩
          go_wp2_with fail
          go_ret2
          exact HFI.out _ (Gn.below_drewN HB.out _)
      · have han2 : ¬ (a : Int) < (n : Int) := by omega
        have hd := bin_done (f := false) HS.out (x := x) (k := a) (by have := HNN.out; omega) H1.out H2.out (fun h => absurd h (by have := HNN.out; omega)) (fun _ => rfl)
        have HFI := Lib.hid (show BinOut l x W (.returned (.tuple #[.int .i64 a, .bool false])) wr from ⟨by rw [hd.1, ← hd.2, ← hd.1], HB.out⟩)
        clear hd
        go_wp2_with fail
        go_ret2
        exact HFI.out
set_option maxHeartbeats 2000000 in
theorem has_any (nm tc : ByteArray) (l : List ByteArray) (x : ByteArray) (P : Nat → Prop) (W : World) (v : Value) (h : StrsAt P W l v) (hs : Rising l) (hn : l.length ≤ 4096) : Calls Tryz.prog 52 #[.agg #[.string nm, .string tc, v], .string x] W fun e w' => e = .returned (.bool (hasN l x)) ∧ Below W.heap.size W w' := by
  obtain ⟨A, cap, rfl⟩ := h.form
  obtain ⟨n, hnn⟩ : ∃ n, n = l.length := ⟨_, rfl⟩
  rw [← hnn] at h ⊢
  obtain ⟨V, hV⟩ : ∃ V, V = W.alloc (.cells #[.string nm, .string tc, .slice A n cap] 53) := ⟨_, rfl⟩
  have hb : Below W.heap.size W V := by rw [hV]; exact (Below.refl _ W).alloc (Nat.le_refl _) _
  have hx : V.heap[W.heap.size]? = some (.cells #[.string nm, .string tc, .slice A n cap] 53 (0, 0)) := by rw [hV]; exact heap_alloc_new _ _
  have HBI := Lib.hid (bin_any l x P V (.slice A n cap) (h.under hb) hs hn)
  obtain ⟨kk, hkk⟩ : ∃ kk, kk = plc l x := ⟨_, rfl⟩
  obtain ⟨fd, hfd⟩ : ∃ fd, fd = hasN l x := ⟨_, rfl⟩
  have HBI2 := Lib.hid (HBI.out.mono fun e w' hh => show e = .returned (.tuple #[.int .i64 kk, .bool fd]) ∧ Below V.heap.size V w' from by rw [hkk, hfd]; exact hh)
  rw [← hfd]
  have HV := Lib.hid hV
  have HB := Lib.hid hb
  have x2 := cell_of_row _ _ 2 _ _ (0, 0) hx
  clear hV hb hx h hnn hs hkk hfd HBI
  go_enter Tryz.func52, Tryz.ntmps52
  go_upto_region 1 with fail
  rw [← HV.out]
  go_wp2_with fail
  refine HBI2.out.mono ?_
  rintro e w2 ⟨rfl, hb2⟩
  have HB2 := Lib.hid (HB.out.trans (hb2.mono HB.out.size))
  clear hb2
  go_wp2_with fail
  go_ret
  exact ⟨rfl, HB2.out⟩
end Go.Proofs.YtnmhgjoofgmcgaaGreat.Rl
