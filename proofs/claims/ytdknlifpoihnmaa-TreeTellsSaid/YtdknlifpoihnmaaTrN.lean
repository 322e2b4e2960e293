/-
  Layer 14: the document's Sound on a grammar that the law makes: place, apart.
-/
import Derived.Test.YtdknlifpoihnmaaTrM
namespace Go.Proofs.Ytdknlifpoihnmaa.Tr
open Go.RowKit
open Gn (Asks)
open Fx (IntsAt StrsAt Prd PG PrdsAt PgAt PgBox Made letter)
set_option maxRecDepth 100000
set_option linter.unusedSimpArgs false
set_option linter.unusedVariables false

/-- A few short names, no two alike. -/
structure Alone (l : List ByteArray) : Prop where
  few : l.length ≤ 8
  one : ∀ (i : Nat) (h : i < l.length), l[i].size = 1 ∧ (l[i].toList == []) = false
  sep : ∀ (i j : Nat) (hi : i < l.length) (hj : j < l.length), (l[j].toList == l[i].toList) = decide (j = i)
theorem letters_sep : ∀ c, c = 65 ∨ c = 97 → ∀ i, i < 8 → (letter c i).size = 1 ∧ ((letter c i).toList == []) = false ∧ ∀ j, j < 8 → ((letter c j).toList == (letter c i).toList) = decide (j = i) := by
  rintro c (rfl | rfl)
  · have h : ((List.range 8).all fun i => (letter 65 i).size == 1 && (!((letter 65 i).toList == [])) && (List.range 8).all fun j => ((letter 65 j).toList == (letter 65 i).toList) == decide (j = i)) = true := by kernel_rfl
    intro i hi
    have := List.all_eq_true.1 h i (List.mem_range.2 hi)
    simp only [Bool.and_eq_true, beq_iff_eq, Bool.not_eq_true'] at this
    refine ⟨this.1.1, this.1.2, fun j hj => ?_⟩
    have := List.all_eq_true.1 this.2 j (List.mem_range.2 hj)
    exact eq_of_beq this
  · have h : ((List.range 8).all fun i => (letter 97 i).size == 1 && (!((letter 97 i).toList == [])) && (List.range 8).all fun j => ((letter 97 j).toList == (letter 97 i).toList) == decide (j = i)) = true := by kernel_rfl
    intro i hi
    have := List.all_eq_true.1 h i (List.mem_range.2 hi)
    simp only [Bool.and_eq_true, beq_iff_eq, Bool.not_eq_true'] at this
    refine ⟨this.1.1, this.1.2, fun j hj => ?_⟩
    have := List.all_eq_true.1 this.2 j (List.mem_range.2 hj)
    exact eq_of_beq this
theorem alone_of {l : List ByteArray} {c : Nat} (hc : c = 65 ∨ c = 97) (hn : l.length ≤ 8) (h : l = (List.range l.length).map (letter c)) : Alone l := by
  have e : ∀ (i : Nat) (hi : i < l.length), l[i] = letter c i := fun i hi => by
    have : l[i]? = ((List.range l.length).map (letter c))[i]? := by rw [← h]
    rw [List.getElem?_eq_getElem hi, List.getElem?_map, List.getElem?_range hi] at this
    simpa using this
  refine ⟨hn, fun i hi => ?_, fun i j hi hj => ?_⟩
  · rw [e i hi]
    obtain ⟨h1, h2, _⟩ := letters_sep c hc i (by omega)
    exact ⟨h1, h2⟩
  · rw [e i hi, e j hj]
    exact (letters_sep c hc i (by omega)).2.2 j (by omega)
set_option maxHeartbeats 4000000 in
theorem place_any (l : List ByteArray) (ha : Alone l) (i : Nat) (hi : i < l.length) (P : Nat → Prop) (W : World) (v : Value) (h : StrsAt P W l v) (t : ByteArray) (ht : t = l[i]) :
    Calls Try.prog 89 #[v, .string t] W fun e w' => e = .returned (.int .i64 i) ∧ w' = W := by
  obtain ⟨A, cap, b, rfl, hcap, h3, h4⟩ := h
  have hn := ha.few
  obtain ⟨n, hn1⟩ : ∃ n, n = l.length := ⟨_, rfl⟩
  rw [← hn1] at h3 hn ⊢
  have HN := Lib.hid hn1
  have H3 := Lib.hid h3
  have H4 := Lib.hid h4
  have HI := Lib.hid hi
  have hin : i < n := by omega
  have HTE := Lib.hid (fun j hj => ht ▸ ha.sep i j hi hj)
  clear hn1 h3 h4 hcap ha hi ht
  go_enter Try.func89, Try.ntmps89
  go_wp2_with fail
  go_loopw [5] (fun x wr => ∃ j : Nat, j ≤ i ∧ x = .int .i64 j ∧ wr = W) (fun x _ => i - (intOf x).toNat)
  case atStart => exact ⟨0, Nat.zero_le _, rfl, rfl⟩
  case round =>
    obtain ⟨j, hj, rfl, rfl⟩ := hrel
    have hjn2 : (j : Int) < (n : Int) := by omega
    have hjl : j < l.length := by rw [← HN.out]; omega
    obtain ⟨rfl, hbl, _⟩ := H3.out (by omega)
    have y := H4.out j hjl
    have hT := HTE.out j hjl
    by_cases hx : j = i
    · have e1 : (l[j].toList == t.toList) = true := by rw [hT, decide_eq_true hx]
      obtain ⟨xm, hxm⟩ : ∃ xm, xm = l[j] := ⟨_, rfl⟩
      rw [← hxm] at e1 y
      clear hT hxm
      subst hx
      go_wp2
      go_ret
      exact ⟨rfl, rfl⟩
    · have e1 : (l[j].toList == t.toList) = false := by rw [hT, decide_eq_false hx]
      obtain ⟨xm, hxm⟩ : ∃ xm, xm = l[j] := ⟨_, rfl⟩
      rw [← hxm] at e1 y
      clear hT hxm
      go_wp2
      go_roundw
      case rel => exact ⟨j + 1, by omega, by simp, by trivial⟩
      case measure => simp [intOf]; omega
set_option maxHeartbeats 4000000 in
theorem apart_any (l : List ByteArray) (ha : Alone l) (m : Int) (hm : 1 ≤ m) (P : Nat → Prop) (W : World) (v : Value) (h : StrsAt P W l v) :
    Calls Try.prog 72 #[v, .int .i64 m] W fun e w' => e = .returned (.bool true) ∧ w' = W := by
  have HK := Lib.hid (fun (i : Nat) (t : ByteArray) (ht : l[i]? = some t) => place_any l ha i (List.getElem?_eq_some_iff.1 ht).1 P W v h t (List.getElem?_eq_some_iff.1 ht).2.symm)
  obtain ⟨A, cap, b, rfl, hcap, h3, h4⟩ := h
  have hn := ha.few
  obtain ⟨n, hn1⟩ : ∃ n, n = l.length := ⟨_, rfl⟩
  rw [← hn1] at h3 hn HK ⊢
  have HN := Lib.hid hn1
  have H3 := Lib.hid h3
  have H4 := Lib.hid h4
  have HA := Lib.hid ha
  clear hn1 h3 h4 hcap ha
  go_enter Try.func72, Try.ntmps72
  go_wp2_with fail
  go_loopw [5] (fun x wr => ∃ j : Nat, j ≤ n ∧ x = .int .i64 j ∧ wr = W) (fun x _ => n - (intOf x).toNat)
  case atStart => exact ⟨0, Nat.zero_le _, rfl, rfl⟩
  case round =>
    obtain ⟨j, hj, rfl, rfl⟩ := hrel
    by_cases hjn : j < n
    · have hjn2 : (j : Int) < (n : Int) := by omega
      have hjl : j < l.length := by rw [← HN.out]; omega
      obtain ⟨rfl, hbl, _⟩ := H3.out (by omega)
      have y := H4.out j hjl
      obtain ⟨hz, e1⟩ := HA.out.one j hjl
      have HKJ := Lib.hid (HK.out j l[j] (List.getElem?_eq_getElem hjl))
      obtain ⟨xm, hxm⟩ : ∃ xm, xm = l[j] := ⟨_, rfl⟩
      rw [← hxm] at e1 y hz HKJ
      clear hxm
      have e3 : ¬ xm.toList = [] := by intro e; rw [e] at e1; simp at e1
      have hz2 : ¬ m < ((xm.size : Nat) : Int) := by omega
      have hjj : ¬ (j : Int) < (j : Int) := by omega
      go_wp2_with fail
      refine HKJ.out.mono ?_
      rintro e w2 ⟨rfl, rfl⟩
      go_wp2_with fail
      go_roundw
      case rel => exact ⟨j + 1, by omega, by simp, by trivial⟩
      case measure => simp [intOf]; omega
    · have hke : n = j := by omega
      subst hke
      have hlt2 : ¬ ((n : Nat) : Int) < ((n : Nat) : Int) := by omega
      go_wp2_with fail
      go_ret
      exact ⟨rfl, rfl⟩
end Go.Proofs.Ytdknlifpoihnmaa.Tr
