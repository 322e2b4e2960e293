/-
  Layer 18: slices.Clone at members and classes; a class and a roll that are copied.
-/
import Derived.Test.YtnmhgjoofgmcgaaGreatRlA
import Derived.Shelf.SlicesE.Clone
namespace Go.Proofs.YtnmhgjoofgmcgaaGreat.Rl
open Go.RowKit
open Fx (StrsAt)
set_option maxRecDepth 100000
set_option linter.unusedSimpArgs false
set_option linter.unusedVariables false
def layM_ren : Go.Shelf.Ren := ⟨fun | 41 => 92 | n => n, fun | 22 => 24 | 23 => 45 | 4 => 4 | n => n, fun | n => n⟩
theorem layM : Go.Proofs.SlLaysE0.n41 Tryz.prog layM_ren := {
  mixed := by kernel_rfl
  f41 := ⟨Tryz.f92.name, by decide, Tryz.func92.trans (congrArg some (by kernel_rfl))⟩
  t4 := Tryz.underlying4
  a4 := Tryz.isAgg4
  z4 := Tryz.sizeOf4
  v4 := Tryz.zeroValue4
  t22 := Tryz.underlying24
  a22 := Tryz.isAgg24
  z22 := Tryz.sizeOf24
  v22 := Tryz.zeroValue24 }
def layC_ren : Go.Shelf.Ren := ⟨fun | 41 => 93 | n => n, fun | 22 => 25 | 23 => 53 | 4 => 4 | n => n, fun | n => n⟩
theorem layC : Go.Proofs.SlLaysE0.n41 Tryz.prog layC_ren := {
  mixed := by kernel_rfl
  f41 := ⟨Tryz.f93.name, by decide, Tryz.func93.trans (congrArg some (by kernel_rfl))⟩
  t4 := Tryz.underlying4
  a4 := Tryz.isAgg4
  z4 := Tryz.sizeOf4
  v4 := Tryz.zeroValue4
  t22 := Tryz.underlying25
  a22 := Tryz.isAgg25
  z22 := Tryz.sizeOf25
  v22 := Tryz.zeroValue25 }
theorem M_info : (Tryz.prog.info? 45).map (fun i => (i.zero, i.size, i.bytes)) = some (some (.agg #[.string ⟨#[]⟩, .int .i64 0, .int .i64 0]), 3, 32) := by kernel_rfl
theorem C_info : (Tryz.prog.info? 53).map (fun i => (i.zero, i.size, i.bytes)) = some (some (.agg #[.string ⟨#[]⟩, .string ⟨#[]⟩, .slice none 0 0]), 3, 56) := by kernel_rfl
theorem S_info : (Tryz.prog.info? 9).map (fun i => (i.zero, i.size, i.bytes)) = some (some (.string ⟨#[]⟩), 1, 16) := by kernel_rfl
theorem cell_one {α : Type} {enc : α → List Value} (h : ∀ x, ∀ u ∈ enc x, u.oneCell' = true) (l : List α) : ∀ u ∈ cellsOf enc l, u.oneCell' = true := by
  intro u hu
  obtain ⟨a, ha, hua⟩ := List.mem_flatten.1 hu
  obtain ⟨x, _, rfl⟩ := List.mem_map.1 ha
  exact h x u hua
theorem encM_one (m : Mem) : ∀ u ∈ encM m, u.oneCell' = true := by
  intro u hu
  simp [encM] at hu
  rcases hu with rfl | rfl | rfl <;> rfl
/-- A row's cells, one after another. -/
theorem row_cells {α : Type} {enc : α → List Value} (he : ∀ x, (enc x).length = 3) {W : World} {l : List α} {b : Nat} (h : ∀ (i : Nat) (h : i < l.length) (j : Nat) (u : Value), (enc l[i])[j]? = some u → W.cell? ⟨b, i * 3 + j, none⟩ = some u) : ∀ (j : Nat) (u : Value), (cellsOf enc l)[j]? = some u → W.cell? ⟨b, 0 + j, none⟩ = some u := by
  intro j u hu
  have hj : j < l.length * 3 := by
    rcases Nat.lt_or_ge j (cellsOf enc l).length with h1 | h1
    · rw [cellsOf_len he] at h1; exact h1
    · rw [List.getElem?_eq_none h1] at hu; cases hu
  have hi : j / 3 < l.length := by omega
  have hk : (enc l[j / 3])[j % 3]? = some u := by
    have hlt : j % 3 < (enc l[j / 3]).length := by rw [he]; omega
    have h9 := cellsOf_at he l (j / 3) hi (j % 3) _ (List.getElem?_eq_getElem hlt)
    rw [show j / 3 * 3 + j % 3 = j by omega, hu] at h9
    rw [List.getElem?_eq_getElem hlt]
    exact h9.symm
  have := h (j / 3) hi (j % 3) u hk
  rw [show j / 3 * 3 + j % 3 = 0 + j by omega] at this
  exact this
/-- Clone of a row. -/
theorem clone_M (l : List Mem) (P : Nat → Prop) (W : World) (v : Value) (h : RowAt encM P W l v) (hn : l.length ≤ 4096) (hone : ∀ u ∈ cellsOf encM l, u.oneCell' = true) :
    Calls Tryz.prog 92 #[v] W fun e w' => ∃ v', e = .returned v' ∧ w'.ownsRow W.heap.size 45 3 v' l.length (cellsOf encM l) ∧ Below W.heap.size W w' := by
  obtain ⟨i0, hi0, hz0, hz1, hz2⟩ := info_parts M_info
  obtain ⟨A, cap, b, rfl, hcap, h0, hA, hc⟩ := h
  cases A with
  | none =>
    have h0 : l = [] := by
      rcases Nat.eq_zero_or_pos l.length with h9 | h9
      · exact List.eq_nil_of_length_eq_zero h9
      · cases (hA h9).1
    subst h0
    refine (AnyE.slices_Clone_nil layM 0 cap W).mono ?_
    rintro e w' ⟨rfl, rfl⟩
    exact ⟨_, rfl, World.ownsRow_nil _ _ _ _, Below.refl _ _⟩
  | some a =>
    have e := h0 a rfl
    subst e
    refine (AnyE.slices_Clone layM i0 _ 3 32 hi0 hz0 hz1 hz2 rfl (by decide) Tryz.sizeOf45 b 0 l.length cap (cellsOf encM l) W (cellsOf_len encM_len l) (by unfold maxLen; omega) (by omega) (row_cells encM_len hc) hone).mono ?_
    rintro e w' ⟨v', rfl, h1, _, h2⟩
    exact ⟨v', rfl, h1, h2⟩
/-- Clone of a row. -/
theorem clone_C (l : List CRaw) (P : Nat → Prop) (W : World) (v : Value) (h : RowAt encC P W l v) (hn : l.length ≤ 4096) (hone : ∀ u ∈ cellsOf encC l, u.oneCell' = true) :
    Calls Tryz.prog 93 #[v] W fun e w' => ∃ v', e = .returned v' ∧ w'.ownsRow W.heap.size 53 3 v' l.length (cellsOf encC l) ∧ Below W.heap.size W w' := by
  obtain ⟨i0, hi0, hz0, hz1, hz2⟩ := info_parts C_info
  obtain ⟨A, cap, b, rfl, hcap, h0, hA, hc⟩ := h
  cases A with
  | none =>
    have h0 : l = [] := by
      rcases Nat.eq_zero_or_pos l.length with h9 | h9
      · exact List.eq_nil_of_length_eq_zero h9
      · cases (hA h9).1
    subst h0
    refine (AnyE.slices_Clone_nil layC 0 cap W).mono ?_
    rintro e w' ⟨rfl, rfl⟩
    exact ⟨_, rfl, World.ownsRow_nil _ _ _ _, Below.refl _ _⟩
  | some a =>
    have e := h0 a rfl
    subst e
    refine (AnyE.slices_Clone layC i0 _ 3 56 hi0 hz0 hz1 hz2 rfl (by decide) Tryz.sizeOf53 b 0 l.length cap (cellsOf encC l) W (cellsOf_len encC_len l) (by unfold maxLen; omega) (by omega) (row_cells encC_len hc) hone).mono ?_
    rintro e w' ⟨v', rfl, h1, _, h2⟩
    exact ⟨v', rfl, h1, h2⟩
theorem strs_own {W : World} {base : Nat} {e : TypeId} {v : Value} {l : List ByteArray} (h : W.ownsRow base e 1 v l.length (l.map Value.string)) : StrsAt (fun b => base ≤ b) W l v := by
  rcases h.2 with ⟨rfl, hn⟩ | ⟨g, cp, cur, rfl, hbr, hh, hnc, _⟩
  · have e : l = [] := List.eq_nil_of_length_eq_zero hn
    subst e
    exact ⟨none, 0, 0, rfl, by simp, fun h => absurd h (by simp), fun i h => absurd h (by simp)⟩
  · have hc := h.cells (g := g) rfl
    refine ⟨_, cp, g, rfl, hnc, fun _ => ⟨rfl, Gn.heap_lt hh, hbr⟩, fun i hi => ?_⟩
    have := hc i (.string l[i]) (by simp [hi])
    rwa [Gn.add_row] at this
/-- Clone of a row of names. -/
theorem clone_S (l : List ByteArray) (P : Nat → Prop) (W : World) (v : Value) (h : StrsAt P W l v) (hn : l.length ≤ 4096) :
    Calls Tryz.prog 88 #[v] W fun e w' => ∃ v', e = .returned v' ∧ w'.ownsRow W.heap.size 9 1 v' l.length (l.map Value.string) ∧ Below W.heap.size W w' := by
  obtain ⟨i0, hi0, hz0, hz1, hz2⟩ := info_parts S_info
  obtain ⟨A, cap, b, rfl, hcap, hA, hc⟩ := h
  rcases Nat.eq_zero_or_pos l.length with h9 | h9
  · have e : l = [] := List.eq_nil_of_length_eq_zero h9
    subst e
    cases A with
    | none =>
      refine (Tryz.slices_Clone_nil 0 cap W).mono ?_
      rintro e w' ⟨rfl, rfl⟩
      exact ⟨_, rfl, World.ownsRow_nil _ _ _ _, Below.refl _ _⟩
    | some a =>
      refine (Tryz.slices_Clone_string_zero a cap W).mono ?_
      rintro e w' ⟨v', rfl, h1, _, h2⟩
      exact ⟨v', rfl, h1, h2⟩
  · obtain ⟨e, hb, _⟩ := hA h9
    subst e
    refine (Tryz.slices_Clone i0 _ 1 16 hi0 hz0 hz1 hz2 rfl (by decide) Tryz.sizeOf9 b 0 l.length cap (l.map Value.string) W (by simp) (by unfold maxLen; omega) (by omega) (fun j u hj => by
      have hj2 : j < l.length := by
        rcases Nat.lt_or_ge j l.length with h1 | h1
        · exact h1
        · rw [List.getElem?_eq_none (by simpa using h1)] at hj; cases hj
      rw [List.getElem?_eq_getElem (by simpa using hj2)] at hj
      injection hj with hj
      rw [Nat.zero_add, hc j hj2, ← hj]
      simp) (fun u hu => by
      obtain ⟨x, _, rfl⟩ := List.mem_map.1 hu
      rfl)).mono ?_
    rintro e w' ⟨v', rfl, h1, _, h2⟩
    exact ⟨v', rfl, h1, h2⟩
theorem own_keep {w w' : World} {base : Nat} {e : TypeId} {size : Nat} {v : Value} {n : Nat} {xs : List Value} (h : w.ownsRow base e size v n xs) (hq : ∀ k, v.ownBlock = some k → w'.heap[k]? = w.heap[k]?) : w'.ownsRow base e size v n xs := by
  refine ⟨h.1, ?_⟩
  rcases h.2 with h | ⟨g, cap, cur, rfl, h1, h2, h3⟩
  · exact .inl h
  · exact .inr ⟨g, cap, cur, rfl, h1, (hq g rfl).trans h2, h3⟩
theorem own_low {w : World} {base base' : Nat} {e : TypeId} {size : Nat} {v : Value} {n : Nat} {xs : List Value} (h : w.ownsRow base e size v n xs) (hb : base' ≤ base) : w.ownsRow base' e size v n xs := by
  refine ⟨h.1, ?_⟩
  rcases h.2 with h | ⟨g, cap, cur, rfl, h1, h2, h3⟩
  · exact .inl h
  · exact .inr ⟨g, cap, cur, rfl, by omega, h2, h3⟩
theorem strs_owned {W : World} {base : Nat} {e : TypeId} {v : Value} {l : List ByteArray} (h : W.ownsRow base e 1 v l.length (l.map Value.string)) : StrsAt (fun b => base ≤ b ∧ v.ownBlock = some b) W l v := by
  rcases h.2 with ⟨rfl, hn⟩ | ⟨g, cp, cur, rfl, hbr, hh, hnc, _⟩
  · have e : l = [] := List.eq_nil_of_length_eq_zero hn
    subst e
    exact ⟨none, 0, 0, rfl, by simp, fun h => absurd h (by simp), fun i h => absurd h (by simp)⟩
  · have hc := h.cells (g := g) rfl
    refine ⟨_, cp, g, rfl, hnc, fun _ => ⟨rfl, Gn.heap_lt hh, hbr, rfl⟩, fun i hi => ?_⟩
    have := hc i (.string l[i]) (by simp [hi])
    rwa [Gn.add_row] at this
end Go.Proofs.YtnmhgjoofgmcgaaGreat.Rl
