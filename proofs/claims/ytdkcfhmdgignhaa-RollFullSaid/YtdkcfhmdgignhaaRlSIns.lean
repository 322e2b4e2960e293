/-
  Layer 18: slices.Insert of one name into a row of the call's own.
-/
import Derived.Test.YtdkcfhmdgignhaaRlBin
import Derived.Test.YtdkcfhmdgignhaaRlRow
namespace Go.Proofs.Ytdkcfhmdgignhaa.Rl
open Go.RowKit
open Fx (StrsAt)
set_option maxRecDepth 100000
set_option linter.unusedSimpArgs false
set_option linter.unusedVariables false
def layI_ren : Go.Shelf.Ren := ⟨fun | 17 => 124 | 22 => 95 | 29 => 114 | 30 => 115 | 36 => 123 | n => n, fun | 0 => 0 | 3 => 3 | 4 => 4 | 9 => 9 | 24 => 52 | n => n, fun | n => n⟩
theorem layI : Go.Proofs.Lays2.n22 Try.prog layI_ren := {
  mixed := by kernel_rfl
  f17 := Try.func124.trans (congrArg some (by kernel_rfl))
  f22 := Try.func95.trans (congrArg some (by kernel_rfl))
  f29 := Try.func114.trans (congrArg some (by kernel_rfl))
  f30 := Try.func115.trans (congrArg some (by kernel_rfl))
  f36 := Try.func123.trans (congrArg some (by kernel_rfl))
  t0 := Try.underlying0
  a0 := Try.isAgg0
  z0 := Try.sizeOf0
  v0 := Try.zeroValue0
  t3 := Try.underlying3
  a3 := Try.isAgg3
  z3 := Try.sizeOf3
  v3 := Try.zeroValue3
  t4 := Try.underlying4
  a4 := Try.isAgg4
  z4 := Try.sizeOf4
  v4 := Try.zeroValue4
  t9 := Try.underlying9
  a9 := Try.isAgg9
  z9 := Try.sizeOf9
  v9 := Try.zeroValue9
  t24 := Try.underlying52
  a24 := Try.isAgg52
  z24 := Try.sizeOf52
  v24 := Try.zeroValue52
  i9 := by kernel_rfl }
theorem setCells_grown (b : Nat) : ∀ (vs : List Value) (o : Nat) (w : World), w.grownBy (w.setCells b o vs) (some b)
  | [], _, w => ⟨rfl, rfl, rfl, Nat.le_refl _, fun _ _ _ => rfl⟩
  | v :: r, o, w => by
    rw [World.setCells]
    have ih := setCells_grown b r (o + 1) (w.setCell ⟨b, o, none⟩ v)
    refine ⟨ih.os.trans rfl, ih.tape.trans rfl, ih.output.trans rfl, by simpa [World.setCell] using ih.size, fun k hk hne => ?_⟩
    rw [ih.block k (by simpa [World.setCell] using hk) hne]
    exact Gn.set_keep _ _ _ (fun e => hne (by rw [e]))
theorem drew_grown (w : World) (b : Option Nat) : w.grownBy w.drew b := ⟨rfl, rfl, rfl, Nat.le_refl _, fun _ _ _ => rfl⟩
theorem grown_trans {a b c : World} {r : Option Nat} (h : a.grownBy b r) (k : b.grownBy c r) : a.grownBy c r :=
  ⟨k.os.trans h.os, k.tape.trans h.tape, k.output.trans h.output, Nat.le_trans h.size k.size, fun q hq hne => (k.block q (Nat.lt_of_lt_of_le hq h.size) hne).trans (h.block q hq hne)⟩
/-- What Insert tells of a row of names. -/
def SInsOut (base : Nat) (W : World) (s : Value) (l : List ByteArray) (i : Nat) (x : ByteArray) (e : Ending) (w' : World) : Prop := ∃ v', e = .returned v' ∧ StrsAt (fun b => base ≤ b ∧ (s.ownBlock = some b ∨ W.heap.size ≤ b)) w' (l.take i ++ [x] ++ l.drop i) v' ∧ W.grownBy w' s.ownBlock
theorem ins_len {l : List ByteArray} {i : Nat} (x : ByteArray) (hi : i ≤ l.length) : (l.take i ++ [x] ++ l.drop i).length = l.length + 1 := by
  rw [List.length_append, List.length_append, List.length_take, List.length_drop, List.length_singleton]; omega
/-- Cells that read as the new row. -/
theorem ins_cells {l : List ByteArray} {i : Nat} {x : ByteArray} (hi : i ≤ l.length) {w : World} {g : Nat} (h1 : ∀ j (h : j < l.length), j < i → w.cell? ⟨g, j, none⟩ = some (.string l[j])) (h2 : w.cell? ⟨g, i, none⟩ = some (.string x)) (h3 : ∀ j (h : j < l.length), i ≤ j → w.cell? ⟨g, j + 1, none⟩ = some (.string l[j])) :
    ∀ (j : Nat) (h : j < (l.take i ++ [x] ++ l.drop i).length), w.cell? ⟨g, j, none⟩ = some (.string (l.take i ++ [x] ++ l.drop i)[j]) := by
  intro j h
  have hlen := ins_len x hi
  have l1 : (l.take i).length = i := by rw [List.length_take]; omega
  by_cases c1 : j < i
  · have e1 : (l.take i ++ [x] ++ l.drop i)[j] = l[j]'(by omega) := by
      rw [List.getElem_append_left (by simp; omega), List.getElem_append_left (by omega), List.getElem_take]
    rw [e1]
    exact h1 j (by omega) c1
  · by_cases c2 : j = i
    · subst c2
      have e1 : (l.take j ++ [x] ++ l.drop j)[j] = x := by
        rw [List.getElem_append_left (by simp; omega), List.getElem_append_right (by omega)]
        simp [l1]
      rw [e1]
      exact h2
    · have e1 : (l.take i ++ [x] ++ l.drop i)[j] = l[j - 1]'(by omega) := by
        rw [List.getElem_append_right (by simp; omega), List.getElem_drop]
        congr 1
        simp; omega
      rw [e1]
      have := h3 (j - 1) (by omega) (by omega)
      rwa [show j - 1 + 1 = j by omega] at this
theorem str_cell {W : World} {g : Nat} {cur : Array Value} {T : TypeId} (h : W.heap[g]? = some (.cells cur T (0, 0))) {l : List ByteArray} {n : Nat} (hct : cur.toList.take (n * 1) = l.map Value.string) (j : Nat) (v : Value) (hj : (l.map Value.string)[j]? = some v) : W.cell? ⟨g, 0 + j, none⟩ = some v := by
  rw [Nat.zero_add, cell_of_row _ _ j _ _ (0, 0) h]
  rw [← hct, List.getElem?_take] at hj
  split at hj
  · simpa using hj
  · cases hj
theorem str_one (l : List ByteArray) : ∀ v ∈ l.map Value.string, v.oneCell' = true := fun v hv => by
  obtain ⟨x, _, rfl⟩ := List.mem_map.1 hv
  rfl
theorem sins_any (base : Nat) (W : World) (s : Value) (l : List ByteArray) (i : Nat) (x : ByteArray) (vb : Nat) (hown : W.ownsRow base 9 1 s l.length (l.map Value.string)) (hb : base ≤ W.heap.size) (hi : i ≤ l.length) (hn : l.length ≤ 4096) (hv : W.heap[vb]? = some (.cells #[.string x] 9 (0, 0))) (hne : s.ownBlock ≠ some vb) :
    Calls Try.prog 95 #[s, .int .i64 i, .slice (some ⟨vb, 0, none⟩) 1 1] W (SInsOut base W s l i x) := by
  have hvs : ∀ j v, ([Value.string x] : List Value)[j]? = some v → W.cell? ⟨vb, 0 + j, none⟩ = some v := fun j v hj => by
    rw [Nat.zero_add, cell_of_row _ _ j _ _ (0, 0) hv]
    simpa using hj
  have h1v : ∀ v ∈ ([Value.string x] : List Value), v.oneCell' = true := fun v hv => by rw [List.mem_singleton.1 hv]; rfl
  rcases hown.2 with ⟨rfl, hn0⟩ | ⟨g, cap, cur, rfl, hbg, hh, hnc, hcm, hcs, hct⟩
  · have hl : l = [] := List.eq_nil_of_length_eq_zero hn0
    subst hl
    have hi0 : i = 0 := by simpa using hi
    subst hi0
    refine (Any2.slices_Insert_string_end_grow layI none 0 0 vb 0 1 1 [] [.string x] W (by decide) (Nat.le_refl _) (by decide) (by decide) rfl rfl (fun _ => rfl) (fun a h => (by cases h)) hvs h1v).mono ?_
    rintro e w' ⟨rfl, rfl⟩
    refine ⟨_, rfl, ⟨_, _, W.heap.size, rfl, by simpa using grownCap_ge W (0 + 1) 0 _, fun _ => ⟨rfl, by simp, hb, .inr (Nat.le_refl _)⟩, fun j hj => ?_⟩, ⟨rfl, rfl, rfl, by simp, fun k hk _ => heap_alloc_old W.drew _ hk⟩⟩
    have hj0 : j = 0 := by simp at hj; omega
    subst hj0
    have := heap_alloc_new W.drew (.cells ((([] : List Value) ++ [Value.string x]).toArray ++ Builtin.zeroCells (Value.string ⟨#[]⟩).cells (grownCap W (0 + 1) 0 (layI_ren.t 9) - (0 + 1))) (layI_ren.t 9))
    refine (cell_of_row _ _ 0 _ _ (0, 0) this).trans ?_
    rw [Array.getElem?_append_left (by simp)]
    simp
  · have hcl : (l.map Value.string).length = l.length := List.length_map ..
    have hcc := str_cell hh hct
    have hsp : ∀ j, j < cap → (W.cell? ⟨g, 0 + j, none⟩).isSome = true := fun j hj => by
      rw [Nat.zero_add, cell_of_row _ _ j _ _ (0, 0) hh, Array.getElem?_eq_getElem (by omega)]; rfl
    have hfz : ∀ j, W.frozen? ⟨g, j, none⟩ = false := Gn.frozen_row hh
    have hcell : ∀ j (h : j < l.length), W.cell? ⟨g, j, none⟩ = some (.string l[j]) := fun j h => by
      have := hcc j (.string l[j]) (by simp [h])
      rwa [Nat.zero_add] at this
    have hvg : vb ≠ g := fun e => hne (by rw [e]; rfl)
    have hgl := Gn.heap_lt hh
    have hcm2 : cap ≤ 9223372036854775807 := hcm
    have hvc : W.cell? ⟨vb, 0, none⟩ = some (.string x) := hvs 0 _ rfl
    by_cases hin : i = l.length
    · by_cases hroom : l.length + 1 ≤ cap
      · have h := Any2.slices_Insert_string_end_room layI g 0 l.length cap vb 0 1 1 [.string x] W (by decide) hroom hcm2 rfl (fun j hj => by have := hsp (l.length + j) (by omega); rwa [← Nat.add_assoc] at this) (fun j _ => hfz _) hvs h1v
        rw [hin]
        refine h.mono ?_
        rintro e w' ⟨rfl, rfl⟩
        refine ⟨_, rfl, ⟨_, cap, g, by rw [ins_len x (Nat.le_refl _)], by rw [ins_len x (Nat.le_refl _)]; exact hroom, fun _ => ⟨rfl, Nat.lt_of_lt_of_le hgl (setCells_grown g _ _ W).size, hbg, .inl rfl⟩, ?_⟩, setCells_grown g _ _ W⟩
        refine ins_cells (Nat.le_refl _) (fun j h hj => ?_) ?_ (fun j h hj => absurd h (by omega))
        · rw [World.cell?_setCells_out _ _ _ _ _ (fun _ _ => .inl (by show j < _; omega))]
          exact hcell j h
        · have := World.cell?_setCells_in g [Value.string x] (0 + l.length) W (fun j hj => by have := hsp (l.length + j) (by simp at hj; omega); rwa [← Nat.add_assoc] at this) 0 (by simp)
          simpa using this
      · have h := Any2.slices_Insert_string_end_grow layI (some ⟨g, 0, none⟩) l.length cap vb 0 1 1 (l.map Value.string) [.string x] W (by decide) hnc (by omega) (by omega) hcl rfl (fun h => (by cases h)) (fun a ha j v hj => by injection ha with ha; subst ha; rw [Gn.add_row]; have := hcc j v hj; rwa [Nat.zero_add] at this) hvs h1v
        rw [hin]
        refine h.mono ?_
        rintro e w' ⟨rfl, rfl⟩
        have hg9 : W.grownBy (W.drew.alloc (.cells (((l.map Value.string) ++ [Value.string x]).toArray ++ Builtin.zeroCells (Value.string ⟨#[]⟩).cells (grownCap W (l.length + 1) cap (layI_ren.t 9) - (l.length + 1))) (layI_ren.t 9))) (some g) := ⟨rfl, rfl, rfl, by simp, fun k hk _ => heap_alloc_old W.drew _ hk⟩
        have hnew := heap_alloc_new W.drew (.cells (((l.map Value.string) ++ [Value.string x]).toArray ++ Builtin.zeroCells (Value.string ⟨#[]⟩).cells (grownCap W (l.length + 1) cap (layI_ren.t 9) - (l.length + 1))) (layI_ren.t 9))
        refine ⟨_, rfl, ⟨_, _, W.heap.size, by rw [ins_len x (Nat.le_refl _)], by rw [ins_len x (Nat.le_refl _)]; exact grownCap_ge W _ _ _, fun _ => ⟨rfl, by simp, hb, .inr (Nat.le_refl _)⟩, ?_⟩, hg9⟩
        refine ins_cells (Nat.le_refl _) (fun j h hj => ?_) ?_ (fun j h hj => absurd h (by omega))
        · refine (cell_of_row _ _ j _ _ (0, 0) hnew).trans ?_
          rw [Array.getElem?_append_left (by simp; omega)]
          simp [List.getElem?_append_left, h]
        · refine (cell_of_row _ _ l.length _ _ (0, 0) hnew).trans ?_
          rw [Array.getElem?_append_left (by simp)]
          simp
    · have hil : i < l.length := by omega
      by_cases hroom : l.length + 1 ≤ cap
      · have h := Any2.slices_Insert_string_shift layI g 0 l.length cap i vb 0 1 1 (l.map Value.string) [.string x] W hil (by decide) hroom hcm2 hvg hcl rfl hcc (fun j hj => hsp j (by omega)) (fun j _ => hfz _) hvs (str_one l) h1v 9 9 1 cur.size (by simp [World.shape?, hv]) (by simp [World.shape?, hh]) (by omega) (by simp [World.frozen?, hv]) (by simp [World.frozen?, hv])
        refine h.mono ?_
        rintro e w' ⟨rfl, rfl⟩
        have hg9 := grown_trans (drew_grown W (some g)) (grown_trans (setCells_grown g ((l.map Value.string).drop i) (0 + (i + 1)) W.drew) (setCells_grown g [Value.string x] (0 + i) _))
        have hsp1 : ∀ j, j < cap → ((W.drew.setCells g (0 + (i + 1)) ((l.map Value.string).drop i)).cell? ⟨g, 0 + j, none⟩).isSome = true := fun j hj => isSome_setCells g _ _ _ (fun t ht => by rw [Nat.add_assoc]; exact hsp _ (by rw [List.length_drop, hcl] at ht; omega)) _ (hsp j hj)
        refine ⟨_, rfl, ⟨_, cap, g, by rw [ins_len x hi], by rw [ins_len x hi]; exact hroom, fun _ => ⟨rfl, Nat.lt_of_lt_of_le hgl hg9.size, hbg, .inl rfl⟩, ?_⟩, hg9⟩
        refine ins_cells hi (fun j h hj => ?_) ?_ (fun j h hj => ?_)
        · rw [World.cell?_setCells_out _ _ _ _ _ (fun _ _ => .inl (by show j < _; omega)), World.cell?_setCells_out _ _ _ _ _ (fun _ _ => .inl (by show j < _; omega))]
          exact hcell j h
        · have := World.cell?_setCells_in g [Value.string x] (0 + i) (W.drew.setCells g (0 + (i + 1)) ((l.map Value.string).drop i)) (fun j hj => by have := hsp1 (i + j) (by simp at hj; omega); rw [show 0 + (i + j) = 0 + i + j by omega] at this; exact this) 0 (by simp)
          simpa using this
        · rw [World.cell?_setCells_out _ _ _ _ _ (fun _ _ => .inr (by show _ ≤ j + 1; simp; omega))]
          have hjl : j - i < ((l.map Value.string).drop i).length := by rw [List.length_drop, hcl]; omega
          have := World.cell?_setCells_in g ((l.map Value.string).drop i) (0 + (i + 1)) W.drew (fun t ht => by rw [Nat.add_assoc]; exact hsp _ (by rw [List.length_drop, hcl] at ht; omega)) (j - i) hjl
          rw [show 0 + (i + 1) + (j - i) = j + 1 by omega] at this
          rw [this, List.getElem_drop, List.getElem_map]
          congr 2
          congr 1
          omega
      · have h := Any2.slices_Insert_string_grow layI g 0 l.length cap i vb 0 1 1 (l.map Value.string) [.string x] W hil (by decide) hnc (by omega) (by omega) hcl rfl hcc hvs (str_one l) h1v
        refine h.mono ?_
        rintro e w' ⟨rfl, rfl⟩
        obtain ⟨G, hG⟩ : ∃ G, G = grownCap W (l.length + 1) cap (layI_ren.t 9) := ⟨_, rfl⟩
        rw [← hG]
        have hGn : l.length + 1 ≤ G := by rw [hG]; exact grownCap_ge W _ _ _
        obtain ⟨ROW, hROW⟩ : ∃ ROW : Array Value, ROW = ((l.map Value.string).take i).toArray ++ Builtin.zeroCells (Value.string ⟨#[]⟩).cells (l.length + 1 - i) ++ Builtin.zeroCells (Value.string ⟨#[]⟩).cells (G - (l.length + 1)) := ⟨_, rfl⟩
        rw [← hROW]
        have hRs : ROW.size = G := by
          rw [hROW]
          simp [Builtin.zeroCells, Value.cells]
          omega
        have hRi : ∀ j (h : j < l.length), j < i → ROW[j]? = some (.string l[j]) := fun j h hj => by
          rw [hROW, Array.getElem?_append_left (by simp [Builtin.zeroCells, Value.cells]; omega), Array.getElem?_append_left (by simp; omega)]
          simp [List.getElem?_take, hj, h]
        obtain ⟨W1, hW1⟩ : ∃ W1, W1 = W.alloc (.cells ROW (layI_ren.t 9)) := ⟨_, rfl⟩
        rw [← hW1]
        have hn1 : W1.heap[W.heap.size]? = some (.cells ROW (layI_ren.t 9) (0, 0)) := by rw [hW1]; exact heap_alloc_new W _
        have hsp1 : ∀ j, j < G → (W1.drew.cell? ⟨W.heap.size, j, none⟩).isSome = true := fun j hj => by
          show (W1.cell? _).isSome = true
          rw [cell_of_row _ _ j _ _ (0, 0) hn1, Array.getElem?_eq_getElem (by omega)]; rfl
        have hgr0 : W.grownBy W1 (some g) := by rw [hW1]; exact ⟨rfl, rfl, rfl, by simp, fun k hk _ => heap_alloc_old W _ hk⟩
        have hlow : ∀ (w : World) (vs : List Value) (o : Nat), W.grownBy w (some g) → W.heap.size < w.heap.size → W.grownBy (w.setCells W.heap.size o vs) (some g) := fun w vs o h9 hz => by
          have hs := setCells_grown W.heap.size vs o w
          exact ⟨hs.os.trans h9.os, hs.tape.trans h9.tape, hs.output.trans h9.output, Nat.le_trans h9.size hs.size, fun k hk hne9 => (hs.block k (Nat.lt_of_lt_of_le hk h9.size) (fun e => by injection e with e; omega)).trans (h9.block k hk hne9)⟩
        have hz1 : W.heap.size < W1.heap.size := Gn.heap_lt hn1
        have hg2 := hlow (W1.drew) [Value.string x] i (grown_trans hgr0 (drew_grown _ _)) hz1
        have hz2 : W.heap.size < (W1.drew.setCells W.heap.size i [Value.string x]).heap.size := Nat.lt_of_lt_of_le hz1 (setCells_grown _ _ _ W1.drew).size
        have hg3 := hlow ((W1.drew.setCells W.heap.size i [Value.string x]).drew) ((l.map Value.string).drop i) (i + 1) (grown_trans hg2 (drew_grown _ _)) hz2
        refine ⟨_, rfl, ⟨_, G, W.heap.size, by rw [ins_len x hi], by rw [ins_len x hi]; exact hGn, fun _ => ⟨rfl, Nat.lt_of_lt_of_le hz2 (setCells_grown W.heap.size ((l.map Value.string).drop i) (i + 1) (W1.drew.setCells W.heap.size i [Value.string x]).drew).size, hb, .inr (Nat.le_refl _)⟩, ?_⟩, hg3⟩
        refine ins_cells hi (fun j h hj => ?_) ?_ (fun j h hj => ?_)
        · rw [World.cell?_setCells_out _ _ _ _ _ (fun _ _ => .inl (by show j < _; omega))]
          show (W1.drew.setCells W.heap.size i [Value.string x]).cell? _ = _
          rw [World.cell?_setCells_out _ _ _ _ _ (fun _ _ => .inl (by show j < _; omega))]
          show W1.cell? _ = _
          rw [cell_of_row _ _ j _ _ (0, 0) hn1]
          exact hRi j h hj
        · rw [World.cell?_setCells_out _ _ _ _ _ (fun _ _ => .inl (by show i < _; omega))]
          show (W1.drew.setCells W.heap.size i [Value.string x]).cell? _ = _
          have := World.cell?_setCells_in W.heap.size [Value.string x] i W1.drew (fun j hj => hsp1 _ (by simp at hj; omega)) 0 (by simp)
          simpa using this
        · have hjl : j - i < ((l.map Value.string).drop i).length := by rw [List.length_drop, hcl]; omega
          have := World.cell?_setCells_in W.heap.size ((l.map Value.string).drop i) (i + 1) ((W1.drew.setCells W.heap.size i [Value.string x]).drew) (fun t ht => by
            show ((W1.drew.setCells W.heap.size i [Value.string x]).cell? _).isSome = true
            exact isSome_setCells _ _ _ _ (fun t2 ht2 => hsp1 _ (by simp at ht2; omega)) _ (hsp1 _ (by rw [List.length_drop, hcl] at ht; omega))) (j - i) hjl
          rw [show i + 1 + (j - i) = j + 1 by omega] at this
          rw [this, List.getElem_drop, List.getElem_map]
          congr 2
          congr 1
          omega
end Go.Proofs.Ytdkcfhmdgignhaa.Rl
