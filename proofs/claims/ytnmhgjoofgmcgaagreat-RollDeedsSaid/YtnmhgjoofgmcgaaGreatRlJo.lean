/-
  Layer 18: slices.Insert of one name into a row of the call's own.
  Layer 18: a student joins a class, in its place.
  Layer 18: Join.
-/
import Derived.Test.YtnmhgjoofgmcgaaGreatRlBin
import Derived.Test.YtnmhgjoofgmcgaaGreatRlRow
import Derived.Test.YtnmhgjoofgmcgaaGreatRlOpen

namespace Go.Proofs.YtnmhgjoofgmcgaaGreat.Rl
open Go.RowKit
open Fx (StrsAt)
set_option maxRecDepth 100000
set_option linter.unusedSimpArgs false
set_option linter.unusedVariables false
def layI_ren : Go.Shelf.Ren := ⟨fun | 17 => 126 | 22 => 99 | 29 => 116 | 30 => 117 | 36 => 125 | n => n, fun | 0 => 0 | 3 => 3 | 4 => 4 | 9 => 9 | 24 => 51 | n => n, fun | n => n⟩
theorem layI : Go.Proofs.Lays2.n22 Tryz.prog layI_ren := {
  mixed := by kernel_rfl
  f17 := Tryz.func126.trans (congrArg some (by kernel_rfl))
  f22 := Tryz.func99.trans (congrArg some (by kernel_rfl))
  f29 := Tryz.func116.trans (congrArg some (by kernel_rfl))
  f30 := Tryz.func117.trans (congrArg some (by kernel_rfl))
  f36 := Tryz.func125.trans (congrArg some (by kernel_rfl))
  t0 := Tryz.underlying0
  a0 := Tryz.isAgg0
  z0 := Tryz.sizeOf0
  v0 := Tryz.zeroValue0
  t3 := Tryz.underlying3
  a3 := Tryz.isAgg3
  z3 := Tryz.sizeOf3
  v3 := Tryz.zeroValue3
  t4 := Tryz.underlying4
  a4 := Tryz.isAgg4
  z4 := Tryz.sizeOf4
  v4 := Tryz.zeroValue4
  t9 := Tryz.underlying9
  a9 := Tryz.isAgg9
  z9 := Tryz.sizeOf9
  v9 := Tryz.zeroValue9
  t24 := Tryz.underlying51
  a24 := Tryz.isAgg51
  z24 := Tryz.sizeOf51
  v24 := Tryz.zeroValue51
  i9 := by kernel_rfl }
theorem setCells_grown (b : Nat) : ∀ (vs : List Value) (o : Nat) (w : World), w.grownBy (w.setCells b o vs) (some b)
  | [], _, w => ⟨rfl, rfl, rfl, Nat.le_refl _, fun _ _ _ => rfl⟩
  | v :: r, o, w => by
    rw [World.setCells]
    have ih := setCells_grown b r (o + 1) (w.setCell ⟨b, o, none⟩ v)
    refine ⟨ih.os.trans rfl, ih.tape.trans rfl, ih.output.trans rfl, by simpa [World.setCell] using ih.size, fun k hk hne => ?_⟩
    rw [ih.block k (by simpa [World.setCell] using hk) hne]
    exact Gn.set_keep _ _ _ (fun e => hne (by rw [e]))
theorem drew_grown (w : World) (b : Option Nat) : w.grownBy w.drew b := ⟨rfl, rfl, rfl, Nat.le_refl _, fun _ _ _ => rfl⟩
theorem grown_trans {a b c : World} {r : Option Nat} (h : a.grownBy b r) (k : b.grownBy c r) : a.grownBy c r :=
  ⟨k.os.trans h.os, k.tape.trans h.tape, k.output.trans h.output, Nat.le_trans h.size k.size, fun q hq hne => (k.block q (Nat.lt_of_lt_of_le hq h.size) hne).trans (h.block q hq hne)⟩
/-- What Insert tells of a row of names. -/
def SInsOut (base : Nat) (W : World) (s : Value) (l : List ByteArray) (i : Nat) (x : ByteArray) (e : Ending) (w' : World) : Prop := ∃ v', e = .returned v' ∧ StrsAt (fun b => base ≤ b ∧ (s.ownBlock = some b ∨ W.heap.size ≤ b)) w' (l.take i ++ [x] ++ l.drop i) v' ∧ W.grownBy w' s.ownBlock
theorem ins_len {l : List ByteArray} {i : Nat} (x : ByteArray) (hi : i ≤ l.length) : (l.take i ++ [x] ++ l.drop i).length = l.length + 1 := by
  rw [List.length_append, List.length_append, List.length_take, List.length_drop, List.length_singleton]; omega
/-- Cells that read as the new row. -/
theorem ins_cells {l : List ByteArray} {i : Nat} {x : ByteArray} (hi : i ≤ l.length) {w : World} {g : Nat} (h1 : ∀ j (h : j < l.length), j < i → w.cell? ⟨g, j, none⟩ = some (.string l[j])) (h2 : w.cell? ⟨g, i, none⟩ = some (.string x)) (h3 : ∀ j (h : j < l.length), i ≤ j → w.cell? ⟨g, j + 1, none⟩ = some (.string l[j])) :
    ∀ (j : Nat) (h : j < (l.take i ++ [x] ++ l.drop i).length), w.cell? ⟨g, j, none⟩ = some (.string (l.take i ++ [x] ++ l.drop i)[j]) := by
  intro j h
  have hlen := ins_len x hi
  have l1 : (l.take i).length = i := by rw [List.length_take]; omega
  by_cases c1 : j < i
  · have e1 : (l.take i ++ [x] ++ l.drop i)[j] = l[j]'(by omega) := by
      rw [List.getElem_append_left (by simp; omega), List.getElem_append_left (by omega), List.getElem_take]
    rw [e1]
    exact h1 j (by omega) c1
  · by_cases c2 : j = i
    · subst c2
      have e1 : (l.take j ++ [x] ++ l.drop j)[j] = x := by
        rw [List.getElem_append_left (by simp; omega), List.getElem_append_right (by omega)]
        simp [l1]
      rw [e1]
      exact h2
    · have e1 : (l.take i ++ [x] ++ l.drop i)[j] = l[j - 1]'(by omega) := by
        rw [List.getElem_append_right (by simp; omega), List.getElem_drop]
        congr 1
        simp; omega
      rw [e1]
      have := h3 (j - 1) (by omega) (by omega)
      rwa [show j - 1 + 1 = j by omega] at this
theorem str_cell {W : World} {g : Nat} {cur : Array Value} {T : TypeId} (h : W.heap[g]? = some (.cells cur T (0, 0))) {l : List ByteArray} {n : Nat} (hct : cur.toList.take (n * 1) = l.map Value.string) (j : Nat) (v : Value) (hj : (l.map Value.string)[j]? = some v) : W.cell? ⟨g, 0 + j, none⟩ = some v := by
  rw [Nat.zero_add, cell_of_row _ _ j _ _ (0, 0) h]
  rw [← hct, List.getElem?_take] at hj
  split at hj
  · simpa using hj
  · cases hj
theorem str_one (l : List ByteArray) : ∀ v ∈ l.map Value.string, v.oneCell' = true := fun v hv => by
  obtain ⟨x, _, rfl⟩ := List.mem_map.1 hv
  rfl
theorem sins_any (base : Nat) (W : World) (s : Value) (l : List ByteArray) (i : Nat) (x : ByteArray) (vb : Nat) (hown : W.ownsRow base 9 1 s l.length (l.map Value.string)) (hb : base ≤ W.heap.size) (hi : i ≤ l.length) (hn : l.length ≤ 4096) (hv : W.heap[vb]? = some (.cells #[.string x] 9 (0, 0))) (hne : s.ownBlock ≠ some vb) :
    Calls Tryz.prog 99 #[s, .int .i64 i, .slice (some ⟨vb, 0, none⟩) 1 1] W (SInsOut base W s l i x) := by
  have hvs : ∀ j v, ([Value.string x] : List Value)[j]? = some v → W.cell? ⟨vb, 0 + j, none⟩ = some v := fun j v hj => by
    rw [Nat.zero_add, cell_of_row _ _ j _ _ (0, 0) hv]
    simpa using hj
  have h1v : ∀ v ∈ ([Value.string x] : List Value), v.oneCell' = true := fun v hv => by rw [List.mem_singleton.1 hv]; rfl
  rcases hown.2 with ⟨rfl, hn0⟩ | ⟨g, cap, cur, rfl, hbg, hh, hnc, hcm, hcs, hct⟩
  · have hl : l = [] := List.eq_nil_of_length_eq_zero hn0
    subst hl
    have hi0 : i = 0 := by simpa using hi
    subst hi0
    refine (Any2.slices_Insert_string_end_grow layI none 0 0 vb 0 1 1 [] [.string x] W (by decide) (Nat.le_refl _) (by decide) (by decide) rfl rfl (fun _ => rfl) (fun a h => (by cases h)) hvs h1v).mono ?_
    rintro e w' ⟨rfl, rfl⟩
    refine ⟨_, rfl, ⟨_, _, W.heap.size, rfl, by simpa using grownCap_ge W (0 + 1) 0 _, fun _ => ⟨rfl, by simp, hb, .inr (Nat.le_refl _)⟩, fun j hj => ?_⟩, ⟨rfl, rfl, rfl, by simp, fun k hk _ => heap_alloc_old W.drew _ hk⟩⟩
    have hj0 : j = 0 := by simp at hj; omega
    subst hj0
    have := heap_alloc_new W.drew (.cells ((([] : List Value) ++ [Value.string x]).toArray ++ Builtin.zeroCells (Value.string ⟨#[]⟩).cells (grownCap W (0 + 1) 0 (layI_ren.t 9) - (0 + 1))) (layI_ren.t 9))
    refine (cell_of_row _ _ 0 _ _ (0, 0) this).trans ?_
    rw [Array.getElem?_append_left (by simp)]
    simp
  · have hcl : (l.map Value.string).length = l.length := List.length_map ..
    have hcc := str_cell hh hct
    have hsp : ∀ j, j < cap → (W.cell? ⟨g, 0 + j, none⟩).isSome = true := fun j hj => by
      rw [Nat.zero_add, cell_of_row _ _ j _ _ (0, 0) hh, Array.getElem?_eq_getElem (by omega)]; rfl
    have hfz : ∀ j, W.frozen? ⟨g, j, none⟩ = false := Gn.frozen_row hh
    have hcell : ∀ j (h : j < l.length), W.cell? ⟨g, j, none⟩ = some (.string l[j]) := fun j h => by
      have := hcc j (.string l[j]) (by simp [h])
      rwa [Nat.zero_add] at this
    have hvg : vb ≠ g := fun e => hne (by rw [e]; rfl)
    have hgl := Gn.heap_lt hh
    have hcm2 : cap ≤ 9223372036854775807 := hcm
    have hvc : W.cell? ⟨vb, 0, none⟩ = some (.string x) := hvs 0 _ rfl
    by_cases hin : i = l.length
    · by_cases hroom : l.length + 1 ≤ cap
      · have h := Any2.slices_Insert_string_end_room layI g 0 l.length cap vb 0 1 1 [.string x] W (by decide) hroom hcm2 rfl (fun j hj => by have := hsp (l.length + j) (by omega); rwa [← Nat.add_assoc] at this) (fun j _ => hfz _) hvs h1v
        rw [hin]
        refine h.mono ?_
        rintro e w' ⟨rfl, rfl⟩
        refine ⟨_, rfl, ⟨_, cap, g, by rw [ins_len x (Nat.le_refl _)], by rw [ins_len x (Nat.le_refl _)]; exact hroom, fun _ => ⟨rfl, Nat.lt_of_lt_of_le hgl (setCells_grown g _ _ W).size, hbg, .inl rfl⟩, ?_⟩, setCells_grown g _ _ W⟩
        refine ins_cells (Nat.le_refl _) (fun j h hj => ?_) ?_ (fun j h hj => absurd h (by omega))
        · rw [World.cell?_setCells_out _ _ _ _ _ (fun _ _ => .inl (by show j < _; omega))]
          exact hcell j h
        · have := World.cell?_setCells_in g [Value.string x] (0 + l.length) W (fun j hj => by have := hsp (l.length + j) (by simp at hj; omega); rwa [← Nat.add_assoc] at this) 0 (by simp)
          simpa using this
      · have h := Any2.slices_Insert_string_end_grow layI (some ⟨g, 0, none⟩) l.length cap vb 0 1 1 (l.map Value.string) [.string x] W (by decide) hnc (by omega) (by omega) hcl rfl (fun h => (by cases h)) (fun a ha j v hj => by injection ha with ha; subst ha; rw [Gn.add_row]; have := hcc j v hj; rwa [Nat.zero_add] at this) hvs h1v
        rw [hin]
        refine h.mono ?_
        rintro e w' ⟨rfl, rfl⟩
        have hg9 : W.grownBy (W.drew.alloc (.cells (((l.map Value.string) ++ [Value.string x]).toArray ++ Builtin.zeroCells (Value.string ⟨#[]⟩).cells (grownCap W (l.length + 1) cap (layI_ren.t 9) - (l.length + 1))) (layI_ren.t 9))) (some g) := ⟨rfl, rfl, rfl, by simp, fun k hk _ => heap_alloc_old W.drew _ hk⟩
        have hnew := heap_alloc_new W.drew (.cells (((l.map Value.string) ++ [Value.string x]).toArray ++ Builtin.zeroCells (Value.string ⟨#[]⟩).cells (grownCap W (l.length + 1) cap (layI_ren.t 9) - (l.length + 1))) (layI_ren.t 9))
        refine ⟨_, rfl, ⟨_, _, W.heap.size, by rw [ins_len x (Nat.le_refl _)], by rw [ins_len x (Nat.le_refl _)]; exact grownCap_ge W _ _ _, fun _ => ⟨rfl, by simp, hb, .inr (Nat.le_refl _)⟩, ?_⟩, hg9⟩
        refine ins_cells (Nat.le_refl _) (fun j h hj => ?_) ?_ (fun j h hj => absurd h (by omega))
        · refine (cell_of_row _ _ j _ _ (0, 0) hnew).trans ?_
          rw [Array.getElem?_append_left (by simp; omega)]
          simp [List.getElem?_append_left, h]
        · refine (cell_of_row _ _ l.length _ _ (0, 0) hnew).trans ?_
          rw [Array.getElem?_append_left (by simp)]
          simp
    · have hil : i < l.length := by omega
      by_cases hroom : l.length + 1 ≤ cap
      · have h := Any2.slices_Insert_string_shift layI g 0 l.length cap i vb 0 1 1 (l.map Value.string) [.string x] W hil (by decide) hroom hcm2 hvg hcl rfl hcc (fun j hj => hsp j (by omega)) (fun j _ => hfz _) hvs (str_one l) h1v 9 9 1 cur.size (by simp [World.shape?, hv]) (by simp [World.shape?, hh]) (by omega) (by simp [World.frozen?, hv]) (by simp [World.frozen?, hv])
        refine h.mono ?_
        rintro e w' ⟨rfl, rfl⟩
        have hg9 := grown_trans (drew_grown W (some g)) (grown_trans (setCells_grown g ((l.map Value.string).drop i) (0 + (i + 1)) W.drew) (setCells_grown g [Value.string x] (0 + i) _))
        have hsp1 : ∀ j, j < cap → ((W.drew.setCells g (0 + (i + 1)) ((l.map Value.string).drop i)).cell? ⟨g, 0 + j, none⟩).isSome = true := fun j hj => isSome_setCells g _ _ _ (fun t ht => by rw [Nat.add_assoc]; exact hsp _ (by rw [List.length_drop, hcl] at ht; omega)) _ (hsp j hj)
        refine ⟨_, rfl, ⟨_, cap, g, by rw [ins_len x hi], by rw [ins_len x hi]; exact hroom, fun _ => ⟨rfl, Nat.lt_of_lt_of_le hgl hg9.size, hbg, .inl rfl⟩, ?_⟩, hg9⟩
        refine ins_cells hi (fun j h hj => ?_) ?_ (fun j h hj => ?_)
        · rw [World.cell?_setCells_out _ _ _ _ _ (fun _ _ => .inl (by show j < _; omega)), World.cell?_setCells_out _ _ _ _ _ (fun _ _ => .inl (by show j < _; omega))]
          exact hcell j h
        · have := World.cell?_setCells_in g [Value.string x] (0 + i) (W.drew.setCells g (0 + (i + 1)) ((l.map Value.string).drop i)) (fun j hj => by have := hsp1 (i + j) (by simp at hj; omega); rw [show 0 + (i + j) = 0 + i + j by omega] at this; exact this) 0 (by simp)
          simpa using this
        · rw [World.cell?_setCells_out _ _ _ _ _ (fun _ _ => .inr (by show _ ≤ j + 1; simp; omega))]
          have hjl : j - i < ((l.map Value.string).drop i).length := by rw [List.length_drop, hcl]; omega
          have := World.cell?_setCells_in g ((l.map Value.string).drop i) (0 + (i + 1)) W.drew (fun t ht => by rw [Nat.add_assoc]; exact hsp _ (by rw [List.length_drop, hcl] at ht; omega)) (j - i) hjl
          rw [show 0 + (i + 1) + (j - i) = j + 1 by omega] at this
          rw [this, List.getElem_drop, List.getElem_map]
          congr 2
          congr 1
          omega
      · have h := Any2.slices_Insert_string_grow layI g 0 l.length cap i vb 0 1 1 (l.map Value.string) [.string x] W hil (by decide) hnc (by omega) (by omega) hcl rfl hcc hvs (str_one l) h1v
        refine h.mono ?_
        rintro e w' ⟨rfl, rfl⟩
        obtain ⟨G, hG⟩ : ∃ G, G = grownCap W (l.length + 1) cap (layI_ren.t 9) := ⟨_, rfl⟩
        rw [← hG]
        have hGn : l.length + 1 ≤ G := by rw [hG]; exact grownCap_ge W _ _ _
        obtain ⟨ROW, hROW⟩ : ∃ ROW : Array Value, ROW = ((l.map Value.string).take i).toArray ++ Builtin.zeroCells (Value.string ⟨#[]⟩).cells (l.length + 1 - i) ++ Builtin.zeroCells (Value.string ⟨#[]⟩).cells (G - (l.length + 1)) := ⟨_, rfl⟩
        rw [← hROW]
        have hRs : ROW.size = G := by
          rw [hROW]
          simp [Builtin.zeroCells, Value.cells]
          omega
        have hRi : ∀ j (h : j < l.length), j < i → ROW[j]? = some (.string l[j]) := fun j h hj => by
          rw [hROW, Array.getElem?_append_left (by simp [Builtin.zeroCells, Value.cells]; omega), Array.getElem?_append_left (by simp; omega)]
          simp [List.getElem?_take, hj, h]
        obtain ⟨W1, hW1⟩ : ∃ W1, W1 = W.alloc (.cells ROW (layI_ren.t 9)) := ⟨_, rfl⟩
        rw [← hW1]
        have hn1 : W1.heap[W.heap.size]? = some (.cells ROW (layI_ren.t 9) (0, 0)) := by rw [hW1]; exact heap_alloc_new W _
        have hsp1 : ∀ j, j < G → (W1.drew.cell? ⟨W.heap.size, j, none⟩).isSome = true := fun j hj => by
          show (W1.cell? _).isSome = true
          rw [cell_of_row _ _ j _ _ (0, 0) hn1, Array.getElem?_eq_getElem (by omega)]; rfl
        have hgr0 : W.grownBy W1 (some g) := by rw [hW1]; exact ⟨rfl, rfl, rfl, by simp, fun k hk _ => heap_alloc_old W _ hk⟩
        have hlow : ∀ (w : World) (vs : List Value) (o : Nat), W.grownBy w (some g) → W.heap.size < w.heap.size → W.grownBy (w.setCells W.heap.size o vs) (some g) := fun w vs o h9 hz => by
          have hs := setCells_grown W.heap.size vs o w
          exact ⟨hs.os.trans h9.os, hs.tape.trans h9.tape, hs.output.trans h9.output, Nat.le_trans h9.size hs.size, fun k hk hne9 => (hs.block k (Nat.lt_of_lt_of_le hk h9.size) (fun e => by injection e with e; omega)).trans (h9.block k hk hne9)⟩
        have hz1 : W.heap.size < W1.heap.size := Gn.heap_lt hn1
        have hg2 := hlow (W1.drew) [Value.string x] i (grown_trans hgr0 (drew_grown _ _)) hz1
        have hz2 : W.heap.size < (W1.drew.setCells W.heap.size i [Value.string x]).heap.size := Nat.lt_of_lt_of_le hz1 (setCells_grown _ _ _ W1.drew).size
        have hg3 := hlow ((W1.drew.setCells W.heap.size i [Value.string x]).drew) ((l.map Value.string).drop i) (i + 1) (grown_trans hg2 (drew_grown _ _)) hz2
        refine ⟨_, rfl, ⟨_, G, W.heap.size, by rw [ins_len x hi], by rw [ins_len x hi]; exact hGn, fun _ => ⟨rfl, Nat.lt_of_lt_of_le hz2 (setCells_grown W.heap.size ((l.map Value.string).drop i) (i + 1) (W1.drew.setCells W.heap.size i [Value.string x]).drew).size, hb, .inr (Nat.le_refl _)⟩, ?_⟩, hg3⟩
        refine ins_cells hi (fun j h hj => ?_) ?_ (fun j h hj => ?_)
        · rw [World.cell?_setCells_out _ _ _ _ _ (fun _ _ => .inl (by show j < _; omega))]
          show (W1.drew.setCells W.heap.size i [Value.string x]).cell? _ = _
          rw [World.cell?_setCells_out _ _ _ _ _ (fun _ _ => .inl (by show j < _; omega))]
          show W1.cell? _ = _
          rw [cell_of_row _ _ j _ _ (0, 0) hn1]
          exact hRi j h hj
        · rw [World.cell?_setCells_out _ _ _ _ _ (fun _ _ => .inl (by show i < _; omega))]
          show (W1.drew.setCells W.heap.size i [Value.string x]).cell? _ = _
          have := World.cell?_setCells_in W.heap.size [Value.string x] i W1.drew (fun j hj => hsp1 _ (by simp at hj; omega)) 0 (by simp)
          simpa using this
        · have hjl : j - i < ((l.map Value.string).drop i).length := by rw [List.length_drop, hcl]; omega
          have := World.cell?_setCells_in W.heap.size ((l.map Value.string).drop i) (i + 1) ((W1.drew.setCells W.heap.size i [Value.string x]).drew) (fun t ht => by
            show ((W1.drew.setCells W.heap.size i [Value.string x]).cell? _).isSome = true
            exact isSome_setCells _ _ _ _ (fun t2 ht2 => hsp1 _ (by simp at ht2; omega)) _ (hsp1 _ (by rw [List.length_drop, hcl] at ht; omega))) (j - i) hjl
          rw [show i + 1 + (j - i) = j + 1 by omega] at this
          rw [this, List.getElem_drop, List.getElem_map]
          congr 2
          congr 1
          omega
end Go.Proofs.YtnmhgjoofgmcgaaGreat.Rl

namespace Go.Proofs.YtnmhgjoofgmcgaaGreat.Rl
open Go.RowKit
open Fx (StrsAt)
set_option maxRecDepth 100000
set_option linter.unusedSimpArgs false
set_option linter.unusedVariables false
def insN (l : List ByteArray) (x : ByteArray) : List ByteArray := l.take (plc l x) ++ [x] ++ l.drop (plc l x)
/-- What join leaves: the class's students' slice is another one. -/
def JoinOut (base g o : Nat) (l : List ByteArray) (x : ByteArray) (sv : Value) (W : World) (e : Ending) (w' : World) : Prop := e = .returned (.tuple #[]) ∧ ∃ (w1 : World) (sv' : Value), w' = w1.setCell ⟨g, o + 2, none⟩ sv' ∧ W.grownBy w1 sv.ownBlock ∧ StrsAt (fun b => base ≤ b ∧ (sv.ownBlock = some b ∨ W.heap.size ≤ b)) w1 (insN l x) sv'
set_option maxHeartbeats 4000000 in
theorem join_any (base g o : Nat) (l : List ByteArray) (x : ByteArray) (W : World) (sv : Value) (cur : Array Value) (T : TypeId) (hg : W.heap[g]? = some (.cells cur T (0, 0))) (hc : W.cell? ⟨g, o + 2, none⟩ = some sv) (hown : W.ownsRow base 9 1 sv l.length (l.map Value.string)) (hb : base ≤ W.heap.size) (hs : Rising l) (hn : l.length ≤ 4000) (hgb : sv.ownBlock ≠ some g) :
    Calls Tryz.prog 63 #[.pointer (some ⟨g, o, none⟩), .string x] W (JoinOut base g o l x sv W) := by
  obtain ⟨A, cap, rfl⟩ := Gn.slice_of hown
  obtain ⟨n, hnn⟩ : ∃ n, n = l.length := ⟨_, rfl⟩
  obtain ⟨p, hp⟩ : ∃ p, p = plc l x := ⟨_, rfl⟩
  have hpl : p ≤ l.length := by rw [hp]; exact plc_le x l
  have HBI := Lib.hid ((bin_any l x _ W _ (strs_own hown) hs (by omega)).mono fun e w' hh => show ∃ f, e = .returned (.tuple #[.int .i64 p, .bool f]) ∧ Below W.heap.size W w' from ⟨_, by rw [hp]; exact hh.1, hh.2⟩)
  rw [← hnn] at HBI hc hgb hown ⊢
  have HOW := Lib.hid hown
  have HNN := Lib.hid hnn
  have HP := Lib.hid hp
  have HG := Lib.hid hg
  have HGB := Lib.hid hgb
  have HPL := Lib.hid hpl
  have HCC := Lib.hid hc
  have HN4 := Lib.hid hn
  clear hown hnn hp hg hgb hpl hs hn
  go_enter Tryz.func63, Tryz.ntmps63
  go_wp2_with fail
  refine HBI.out.mono ?_
  rintro e w2 ⟨f, rfl, hb2⟩
  have hg2 := (hb2.block _ (Gn.heap_lt HG.out)).trans HG.out
  have hc2 := (hb2.cell (p := ⟨g, o + 2, none⟩) (Gn.heap_lt HG.out)).trans hc
  have ho2 : w2.ownsRow base 9 1 (.slice A n cap) n (l.map Value.string) := own_keep HOW.out fun q hq => hb2.block q (Gn.own_lt HOW.out q hq)
  obtain ⟨W3, hW3⟩ : ∃ W3, W3 = w2.alloc (.cells #[.string x] 9) := ⟨_, rfl⟩
  have hb3 : Below w2.heap.size w2 W3 := by rw [hW3]; exact (Below.refl _ _).alloc (Nat.le_refl _) _
  have hv3 : W3.heap[w2.heap.size]? = some (.cells #[.string x] 9 (0, 0)) := by rw [hW3]; exact heap_alloc_new _ _
  have ho3 : W3.ownsRow base 9 1 (.slice A n cap) l.length (l.map Value.string) := by rw [← HNN.out]; exact own_keep ho2 fun q hq => hb3.block q (Gn.own_lt ho2 q hq)
  have HIN := Lib.hid (sins_any base W3 (.slice A n cap) l p x w2.heap.size ho3 (Nat.le_trans hb (Nat.le_trans hb2.size hb3.size)) HPL.out (by have := HN4.out; omega) hv3 (fun e => by have := Gn.own_lt ho2 _ e; omega))
  have HST := Lib.hid (show ∀ (w4 : World), W3.grownBy w4 (Value.slice A n cap).ownBlock → W.grownBy w4 (Value.slice A n cap).ownBlock from fun w4 h => ⟨h.os.trans (hb3.os.trans hb2.os), h.tape.trans (hb3.tape.trans hb2.tape), h.output.trans (hb3.output.trans hb2.output), Nat.le_trans hb2.size (Nat.le_trans hb3.size h.size), fun q hq hne => (h.block q (by have := hb2.size; have := hb3.size; omega) hne).trans ((hb3.block q (by have := hb2.size; omega)).trans (hb2.block q hq))⟩)
  have HZ := Lib.hid (Nat.le_trans hb2.size hb3.size)
  have hg3 := (hb3.block _ (Gn.heap_lt hg2)).trans hg2
  have HG3 := Lib.hid hg3
  have HW3 := Lib.hid hW3
  clear hb2 hg2 ho2 hW3 hb3 hv3 ho3 hg3 hc
  go_upto_region 1 with fail
  go_wp2_with fail
  refine (by rw [← HW3.out]; exact HIN.out : Calls _ _ _ _ _).mono ?_
  rintro e w4 ⟨v4, rfl, hst, hg4⟩
  obtain ⟨A4, c4, hv4⟩ := hst.form
  obtain ⟨n4, hn4⟩ : ∃ n4, n4 = (l.take p ++ [x] ++ l.drop p).length := ⟨_, rfl⟩
  rw [← hn4] at hv4
  subst hv4
  have hg5 : w4.heap[g]? = some (.cells cur T (0, 0)) := (hg4.block g (Gn.heap_lt HG3.out) (fun e => HGB.out e.symm)).trans HG3.out
  have hc5 : w4.cell? ⟨g, o + 2, none⟩ = some (.slice A n cap) := by
    have h1 := HCC.out
    rw [cell_of_row _ _ (o + 2) _ _ (0, 0) HG.out] at h1
    rw [cell_of_row _ _ (o + 2) _ _ (0, 0) hg5]
    exact h1
  have hf5 := Gn.frozen_row hg5 (o + 2)
  have HFI := Lib.hid (show JoinOut base g o l x (.slice A n cap) W (.returned (.tuple #[])) (w4.setCell ⟨g, o + 2, none⟩ (.slice A4 n4 c4)) from ⟨rfl, w4, _, rfl, HST.out w4 hg4, by
    unfold insN
    rw [← HP.out]
    exact hst.keep (Nat.le_refl _) fun q hq _ => ⟨⟨hq.1, hq.2.elim .inl (fun h => .inr (by have := HZ.out; omega))⟩, fun _ => rfl⟩⟩)
  clear hst hg4 hn4 hg5 hc2
  go_wp2_with fail
  refine bodyPost_ret (results_none rfl _ _ _) rfl ?_
  exact HFI.out
end Go.Proofs.YtnmhgjoofgmcgaaGreat.Rl

namespace Go.Proofs.YtnmhgjoofgmcgaaGreat.Rl
open Go.RowKit
open Fx (StrsAt)
set_option maxRecDepth 100000
set_option linter.unusedSimpArgs false
set_option linter.unusedVariables false
def noC : Cls := ⟨⟨#[]⟩, ⟨#[]⟩, []⟩
def joinM (r : Rol) (cl st : ByteArray) : Except Nat Rol :=
  if hasN r.classes cl = false then .error 10
  else if hasN r.names st = false then .error 10
  else if (findM r st).role = 1 then (if hasN (r.cs.getD (plc r.classes cl) noC).studs st = true then .error 9
  else .ok ⟨r.ms, r.cs.set (plc r.classes cl) ⟨(r.cs.getD (plc r.classes cl) noC).name, (r.cs.getD (plc r.classes cl) noC).teacher, insN (r.cs.getD (plc r.classes cl) noC).studs st⟩⟩)
  else .error 13
theorem plc_lt2 {r : Rol} {nm : ByteArray} (hs : Rising r.classes) (h : hasN r.classes nm = true) : plc r.classes nm < r.cs.length := by
  obtain ⟨h1, _⟩ := (plc_mem r.classes nm hs).2 (hasN_iff.1 h)
  simpa [Rol.classes] using h1
theorem cells_at3 {raws : List CRaw} (k : Nat) (h : k < raws.length) : (cellsOf encC raws)[k * 3]? = some (.string raws[k].name) ∧ (cellsOf encC raws)[k * 3 + 1]? = some (.string raws[k].teacher) ∧ (cellsOf encC raws)[k * 3 + 2]? = some raws[k].studs :=
  ⟨by have := cellsOf_at encC_len raws k h 0 _ rfl; rwa [Nat.add_zero] at this, cellsOf_at encC_len raws k h 1 _ rfl, cellsOf_at encC_len raws k h 2 _ rfl⟩
theorem set_same {l : List Value} {i : Nat} {v : Value} (h : l[i]? = some v) : l.set i v = l := by
  apply List.ext_getElem?
  intro j
  by_cases e : i = j
  · subst e
    rw [h, List.getElem?_set_self (by
      rcases Nat.lt_or_ge i l.length with h1 | h1
      · exact h1
      · rw [List.getElem?_eq_none h1] at h; cases h)]
  · rw [List.getElem?_set_ne e]
/-- Another slice of students in its place. -/
theorem own_studs {w : World} {base g cap n k : Nat} {T : TypeId} {l : List CRaw} (h : w.ownsRow base T 3 (.slice (some ⟨g, 0, none⟩) n cap) n (cellsOf encC l)) (hl : l.length = n) (hk : k < l.length) (v : Value) :
    (w.setCell ⟨g, k * 3 + 2, none⟩ v).ownsRow base T 3 (.slice (some ⟨g, 0, none⟩) n cap) n (cellsOf encC (l.set k ⟨l[k].name, l[k].teacher, v⟩)) := by
  have hc := cells_set encC_len (a := .string l[k].name) (b := .string l[k].teacher) (c := v) (⟨l[k].name, l[k].teacher, v⟩ : CRaw) rfl l k hk
  obtain ⟨c0, c1, _⟩ := cells_at3 k hk
  rw [set_same c0, set_same c1] at hc
  refine ⟨by rw [cellsOf_len encC_len, List.length_set, hl], ?_⟩
  rcases h.2 with ⟨h0, _⟩ | ⟨g', cap', cur, h0, h1, h2, h3, h4, h5, h6⟩
  · cases h0
  · injection h0 with h0 _ h0c
    injection h0 with h0
    injection h0 with h0
    subst h0
    subst h0c
    refine .inr ⟨g, cap, _, rfl, h1, Gn.heap_set h2 (k * 3 + 2) v, h3, h4, by simpa using h5, ?_⟩
    rw [← hc, ← h6]
    simp only [Array.toList_setIfInBounds]
    rw [List.take_set]
set_option maxHeartbeats 16000000 in
theorem Join_any (r : Rol) (nm tc : ByteArray) (hsz : Sized r) (P : Nat → Prop) (W : World) (v : Value) (h : RlAt P W r v) :
    Calls Tryz.prog 24 #[v, .string nm, .string tc] W (OpOut W (joinM r nm tc)) := by
  obtain ⟨Am, cm, Ac, cc, rfl, hms, hcs⟩ := h.form
  obtain ⟨n, hnn⟩ : ∃ n, n = r.ms.length := ⟨_, rfl⟩
  obtain ⟨m, hmm⟩ : ∃ m, m = r.cs.length := ⟨_, rfl⟩
  rw [← hnn, ← hmm] at h ⊢
  obtain ⟨raws0, hrow0, hall0⟩ := hcs
  obtain ⟨V, hV⟩ : ∃ V, V = (W.alloc (.cells #[.slice Am n cm, .slice Ac m cc] 27)).alloc (.cells #[.slice none 0 0, .slice none 0 0] 27) := ⟨_, rfl⟩
  have hb : Below W.heap.size W V := by rw [hV]; exact ((Below.refl _ W).alloc (Nat.le_refl _) _).alloc (by simp) _
  have hz : V.heap.size = W.heap.size + 1 + 1 := by rw [hV]; simp
  have hx0 : V.heap[W.heap.size]? = some (.cells #[.slice Am n cm, .slice Ac m cc] 27 (0, 0)) := by rw [hV]; exact (heap_alloc_old _ _ (by simp)).trans (heap_alloc_new W _)
  have hx1 : V.heap[W.heap.size + 1]? = some (.cells #[.slice none 0 0, .slice none 0 0] 27 (0, 0)) := by
    rw [hV]; have := heap_alloc_new (W.alloc (.cells #[.slice Am n cm, .slice Ac m cc] 27)) (.cells #[.slice none 0 0, .slice none 0 0] 27); simpa using this
  obtain ⟨k, hk⟩ : ∃ k, k = plc r.classes nm := ⟨_, rfl⟩
  obtain ⟨fd, hfd⟩ : ∃ fd, fd = hasN r.classes nm := ⟨_, rfl⟩
  obtain ⟨kn, hkn9⟩ : ∃ kn, kn = hasN r.names tc := ⟨_, rfl⟩
  obtain ⟨x, hx⟩ : ∃ x, x = findM r tc := ⟨_, rfl⟩
  have HMB := Lib.hid (class_any r nm P V (.agg #[.slice Am n cm, .slice Ac m cc]) (h.under hb) hsz.classes (by have := hsz.cs; omega))
  rw [← hk, ← hfd] at HMB
  have HME := Lib.hid (fun (w : World) (b : Below W.heap.size W w) => Member_any r tc P w (.agg #[.slice Am n cm, .slice Ac m cc]) (h.under b) hsz.names (by have := hsz.ms; omega))
  rw [← hkn9, ← hx] at HME
  have HCO := Lib.hid (fun (w : World) (b : Below W.heap.size W w) => copied_any r P w (.agg #[.slice Am n cm, .slice Ac m cc]) (h.under b) (by have := hsz.ms; omega) (by have := hsz.cs; omega) (fun c hc => by have := hsz.studs c hc; omega))
  have hRe : joinM r nm tc = if fd = false then .error 10 else if kn = false then .error 10 else if x.role = 1 then (if hasN (r.cs.getD k noC).studs tc = true then .error 9 else .ok ⟨r.ms, r.cs.set k ⟨(r.cs.getD k noC).name, (r.cs.getD k noC).teacher, insN (r.cs.getD k noC).studs tc⟩⟩) else .error 13 := by
    unfold joinM
    rw [← hfd, ← hkn9, ← hx, ← hk]
  have hkc : fd = true → k < r.cs.length := fun e => by rw [hfd] at e; rw [hk]; exact plc_lt2 hsz.classes e
  have HKC := Lib.hid hkc
  have HSZ := Lib.hid hsz
  have HROW := Lib.hid hrow0
  have HALL := Lib.hid hall0
  have HRE := Lib.hid hRe
  have HNN := Lib.hid hnn
  have HMM := Lib.hid hmm
  have HV := Lib.hid hV
  have HB := Lib.hid hb
  have HX0 := Lib.hid hx0
  have HX1 := Lib.hid hx1
  have HZ := Lib.hid hz
  have x0 := cell_of_row _ _ 0 _ _ (0, 0) hx0
  have x1 := cell_of_row _ _ 1 _ _ (0, 0) hx0
  clear hV hb hx0 hx1 hz h hnn hmm hk hfd hkn9 hx hRe hsz hkc hrow0 hall0 hms
  go_enter Tryz.func24, Tryz.ntmps24
  go_upto_region 1 with fail
  rw [← HV.out]
  go_wp2_with fail
  refine HMB.out.mono ?_
  rintro e w1 ⟨rfl, hb1⟩
  have hu0 := (hb1.block _ (Gn.heap_lt HX0.out)).trans HX0.out
  have HU0 := Lib.hid hu0
  have HB1 := Lib.hid (HB.out.trans (hb1.mono HB.out.size))
  have HV1 := Lib.hid hb1
  have u0 := cell_of_row _ _ 0 _ _ (0, 0) hu0
  have u1 := cell_of_row _ _ 1 _ _ (0, 0) hu0
  clear hb1 hu0 x0 x1
  go_wp2_with fail
  refine (HME.out w1 HB1.out).mono ?_
  rintro e w19 ⟨rfl, hb19⟩
  obtain ⟨x1, x2, x3⟩ := x
  dsimp only at HME HRE ⊢
  obtain ⟨w2, hw2⟩ : ∃ w2, w2 = w19.alloc (.cells #[.string x1, .int .i64 x2, .int .i64 x3] 45) := ⟨_, rfl⟩
  have hb29 : Below w19.heap.size w19 w2 := by rw [hw2]; exact (Below.refl _ _).alloc (Nat.le_refl _) _
  have hb2 : Below V.heap.size V w2 := HV1.out.trans ((hb19.trans (hb29.mono hb19.size)).mono HV1.out.size)
  have hmb : w2.heap[w19.heap.size]? = some (.cells #[.string x1, .int .i64 x2, .int .i64 x3] 45 (0, 0)) := by rw [hw2]; exact heap_alloc_new _ _
  have mb1 := cell_of_row _ _ 1 _ _ (0, 0) hmb
  have hy0 := (hb2.block _ (Gn.heap_lt HX0.out)).trans HX0.out
  have hy1 := (hb2.block _ (Gn.heap_lt HX1.out)).trans HX1.out
  have HY0 := Lib.hid hy0
  have HY1 := Lib.hid hy1
  have HB2 := Lib.hid (HB.out.trans (hb2.mono HB.out.size))
  have r0 := cell_of_row _ _ 0 _ _ (0, 0) hy1
  have r1 := cell_of_row _ _ 1 _ _ (0, 0) hy1
  have g0 := Gn.frozen_row hy1 0
  have g1 := Gn.frozen_row hy1 1
  have HRS := Lib.hid (Gn.heap_set (Gn.heap_set hy1 0 (.slice none 0 0)) 1 (.slice none 0 0))
  have HBE := Lib.hid ((HB2.out.setCell (p := ⟨W.heap.size + 1, 0, none⟩) (by simp) (.slice none 0 0)).setCell (p := ⟨W.heap.size + 1, 1, none⟩) (by simp) (.slice none 0 0))
  have HW2 := Lib.hid hw2
  clear hb2 hy0 hy1 hb19 hb29 hmb hw2 u0 u1
  go_upto_region 3 with fail
  rw [← HW2.out]
  cases fd with
  | false =>
    have HR := Lib.hid (show joinM r nm tc = .error 10 by rw [HRE.out]; rfl)
    go_wp2_with fail
    refine bodyPost_ret (results_ct (P := Tryz.prog) rfl _ _ (W.heap.size + 1) 27 _ (0, 0) _ _ rfl rfl HRS.out Tryz.underlying27 rfl (by kernel_rfl)) rfl ?_
    rw [HR.out]
    exact ⟨_, rfl, rl_zero _ _, HBE.out⟩
  | true =>
    cases kn with
    | false =>
      have HR := Lib.hid (show joinM r nm tc = .error 10 by rw [HRE.out]; rfl)
      go_wp2_with fail
      refine bodyPost_ret (results_ct (P := Tryz.prog) rfl _ _ (W.heap.size + 1) 27 _ (0, 0) _ _ rfl rfl HRS.out Tryz.underlying27 rfl (by kernel_rfl)) rfl ?_
      rw [HR.out]
      exact ⟨_, rfl, rl_zero _ _, HBE.out⟩
    | true =>
      by_cases hr2 : x2 = 1
      · subst hr2
        have hkc := HKC.out rfl
        have hkm : k < m := by rw [HMM.out]; exact hkc
        have hkm2 : (k : Int) < (m : Int) := by omega
        have hk0 : k < raws0.length := by rw [HALL.out.1]; exact hkc
        obtain ⟨c, hc9⟩ : ∃ c, c = r.cs[k] := ⟨_, rfl⟩
        have hgd : r.cs.getD k noC = c := by rw [hc9, List.getD_eq_getElem?_getD, List.getElem?_eq_getElem hkc]; rfl
        have hRe2 := HRE.out
        rw [hgd] at hRe2
        have HRE2 := Lib.hid hRe2
        obtain ⟨n1, n2, n3⟩ := HALL.out.2 k hk0 hkc
        rw [← hc9] at n1 n2 n3
        have hmemc : c ∈ r.cs := by rw [hc9]; exact List.getElem_mem hkc
        have hrisec := HSZ.out.rising c hmemc
        have hlenc := HSZ.out.studs c hmemc
        obtain ⟨A5, c5, b5, h5, _, _, h5c, h5d⟩ := RowAt.under HROW.out HB2.out
        rw [HALL.out.1, ← HMM.out] at h5
        injection h5 with h5 _ h5k
        subst h5
        subst h5k
        obtain ⟨rfl, hb5, _⟩ := h5c (by omega)
        have k0 := h5d k hk0 0 (.string raws0[k].name) rfl
        have k1 := h5d k hk0 1 (.string raws0[k].teacher) rfl
        have k2 := h5d k hk0 2 raws0[k].studs rfl
        rw [n1, Nat.add_zero] at k0
        rw [n2] at k1
        obtain ⟨A6, c6, hsf⟩ := n3.form
        obtain ⟨sl, hsl⟩ : ∃ sl, sl = c.studs.length := ⟨_, rfl⟩
        rw [← hsl] at hsf
        rw [hsf] at k2 n3
        obtain ⟨hd, hhd⟩ : ∃ hd, hd = hasN c.studs tc := ⟨_, rfl⟩
        have HHS := Lib.hid (has_any c.name c.teacher c.studs tc _ w2 (.slice A6 sl c6) (n3.under HB2.out) hrisec (by omega))
        rw [← hhd] at HHS
        rw [← hhd] at HRE2
        have y0 := cell_of_row _ _ 0 _ _ (0, 0) HY0.out
        have y1 := cell_of_row _ _ 1 _ _ (0, 0) HY0.out
        have HKC2 := Lib.hid hkc
        have HC9 := Lib.hid hc9
        have HRISE := Lib.hid hrisec
        have HLEN := Lib.hid hlenc
        clear hc9 hgd hRe2 n1 n2 n3 hmemc hrisec hlenc h5c h5d hsl hsf hhd hk0 r0 r1 g0 g1
        go_wp2_with fail
        refine HHS.out.mono ?_
        rintro e w21 ⟨rfl, hb21⟩
        have HY0 := Lib.hid ((hb21.block _ (Gn.heap_lt HY0.out)).trans HY0.out)
        have HY1 := Lib.hid ((hb21.block _ (Gn.heap_lt HY1.out)).trans HY1.out)
        have HB2 := Lib.hid (HB2.out.trans (hb21.mono HB2.out.size))
        clear hb21 y0 y1 k0 k1 k2 mb1 HRS HBE
        have r0 := cell_of_row _ _ 0 _ _ (0, 0) HY1.out
        have r1 := cell_of_row _ _ 1 _ _ (0, 0) HY1.out
        have g0 := Gn.frozen_row HY1.out 0
        have g1 := Gn.frozen_row HY1.out 1
        have HRS := Lib.hid (Gn.heap_set (Gn.heap_set HY1.out 0 (.slice none 0 0)) 1 (.slice none 0 0))
        have HBE := Lib.hid ((HB2.out.setCell (p := ⟨W.heap.size + 1, 0, none⟩) (by simp) (.slice none 0 0)).setCell (p := ⟨W.heap.size + 1, 1, none⟩) (by simp) (.slice none 0 0))
        cases hd with
        | true =>
          have HR := Lib.hid (show joinM r nm tc = .error 9 by rw [HRE2.out]; rfl)
          go_wp2_with fail
          refine bodyPost_ret (results_ct (P := Tryz.prog) rfl _ _ (W.heap.size + 1) 27 _ (0, 0) _ _ rfl rfl HRS.out Tryz.underlying27 rfl (by kernel_rfl)) rfl ?_
          rw [HR.out]
          exact ⟨_, rfl, rl_zero _ _, HBE.out⟩
        | false =>
          have HR := Lib.hid (show joinM r nm tc = .ok ⟨r.ms, r.cs.set k ⟨c.name, c.teacher, insN c.studs tc⟩⟩ by rw [HRE2.out]; rfl)
          have y0 := cell_of_row _ _ 0 _ _ (0, 0) HY0.out
          have y1 := cell_of_row _ _ 1 _ _ (0, 0) HY0.out
          clear r0 r1 g0 g1
          go_wp2_with fail
          refine (HCO.out w21 HB2.out).mono ?_
          rintro e w3 ⟨raws, vm, vc, rfl, hco, hb3⟩
          have hcm := hco.ms
          have hcc := hco.cs
          rw [← HNN.out] at hcm
          rw [← HMM.out] at hcc
          obtain ⟨A3, c3, rfl⟩ := Gn.slice_of hcm
          obtain ⟨A4, c4, rfl⟩ := Gn.slice_of hcc
          obtain ⟨g4, rfl⟩ : ∃ g4, A4 = some ⟨g4, 0, none⟩ := by
            rcases hcc.2 with ⟨_, h0⟩ | ⟨g4, _, _, h0, _⟩
            · omega
            · injection h0 with h0
              exact ⟨g4, h0⟩
          have hz9 : W.heap.size + 1 < w21.heap.size := Gn.heap_lt HY1.out
          have hq0 := (hb3.block _ (Gn.heap_lt HY0.out)).trans HY0.out
          have hq1 := (hb3.block _ (Gn.heap_lt HY1.out)).trans HY1.out
          obtain ⟨W4, hW4⟩ : ∃ W4, W4 = (w3.setCell ⟨W.heap.size, 0, none⟩ (.slice A3 n c3)).setCell ⟨W.heap.size, 1, none⟩ (.slice (some ⟨g4, 0, none⟩) m c4) := ⟨_, rfl⟩
          have hk4 : ∀ b, W.heap.size ≠ b → W4.heap[b]? = w3.heap[b]? := fun b hb => by rw [hW4]; exact (Gn.set_keep _ _ _ hb).trans (Gn.set_keep _ _ _ hb)
          have hs4 : W4.heap.size = w3.heap.size := by rw [hW4]; simp [World.setCell]
          have hp0 : W4.heap[W.heap.size]? = some (.cells #[.slice A3 n c3, .slice (some ⟨g4, 0, none⟩) m c4] 27 (0, 0)) := by rw [hW4]; exact Gn.heap_set (Gn.heap_set hq0 0 _) 1 _
          have hp1 : W4.heap[W.heap.size + 1]? = some (.cells #[.slice none 0 0, .slice none 0 0] 27 (0, 0)) := (hk4 _ (by omega)).trans hq1
          have hb4 : Below W.heap.size W W4 := by rw [hW4]; exact ((HB2.out.trans (hb3.mono HB2.out.size)).setCell (Nat.le_refl _) _).setCell (Nat.le_refl _) _
          have hom : W4.ownsRow w21.heap.size 45 3 (.slice A3 n c3) n (cellsOf encM r.ms) := own_keep hcm fun q hq => hk4 q (by have := Gn.own_block hcm q hq; omega)
          have hoc : W4.ownsRow w21.heap.size 53 3 (.slice (some ⟨g4, 0, none⟩) m c4) m (cellsOf encC raws) := own_keep hcc fun q hq => hk4 q (by have := Gn.own_block hcc q hq; omega)
          have hown : ∀ (i : Nat) (h : i < raws.length) (h2 : i < r.cs.length), W4.ownsRow w21.heap.size 9 1 raws[i].studs r.cs[i].studs.length (r.cs[i].studs.map Value.string) ∧ ∀ b, raws[i].studs.ownBlock = some b → (Value.slice A3 n c3).ownBlock ≠ some b ∧ (Value.slice (some ⟨g4, 0, none⟩) m c4).ownBlock ≠ some b := fun i h h2 => ⟨own_keep (hco.own i h h2).1 fun q hq => hk4 q (by have := Gn.own_block (hco.own i h h2).1 q hq; omega), (hco.own i h h2).2⟩
          have hrl : raws.length = r.cs.length := hco.all.1
          have hkr : k < raws.length := by rw [hrl]; exact HKC2.out
          have hnm9 := fun i h h2 => (⟨(hco.all.2 i h h2).1, (hco.all.2 i h h2).2.1⟩ : raws[i].name = r.cs[i].name ∧ raws[i].teacher = r.cs[i].teacher)
          have hdis := hco.dis
          have hne := hco.ne
          have hs24 : w21.heap.size ≤ W4.heap.size := by rw [hs4]; exact hb3.size
          obtain ⟨cur4, hcur4, hcsz4⟩ := own_heap hoc
          obtain ⟨sv, hsv⟩ : ∃ sv, sv = raws[k].studs := ⟨_, rfl⟩
          have hownk := hown k hkr HKC2.out
          rw [← hsv] at hownk
          have hc4 : W4.cell? ⟨g4, k * 3 + 2, none⟩ = some sv := by
            obtain ⟨A7, c7, b7, h7, _, _, h7c, h7d⟩ := RowAt.of_own (l := raws) encC_len (by rw [hrl, ← HMM.out]; exact hoc)
            rw [hrl, ← HMM.out] at h7
            injection h7 with h7
            obtain ⟨e7, _, _⟩ := h7c (by omega)
            rw [e7] at h7
            injection h7 with h7
            injection h7 with h7
            rw [h7, hsv]
            exact h7d k hkr 2 _ rfl
          have hck : r.cs[k]'(HKC2.out) = c := HC9.out.symm
          rw [hck] at hownk
          have HJ := Lib.hid (join_any w21.heap.size g4 (k * 3) c.studs tc W4 sv cur4 53 hcur4 hc4 hownk.1 hs24 HRISE.out HLEN.out (fun e => (hownk.2 g4 e).2 rfl))
          have HP0 := Lib.hid hp0
          have HP1 := Lib.hid hp1
          have HB4 := Lib.hid hb4
          have HOM := Lib.hid hom
          have HOC := Lib.hid hoc
          have HOWN := Lib.hid hown
          have HOK := Lib.hid hownk
          have HNM9 := Lib.hid hnm9
          have HDIS := Lib.hid hdis
          have HNE := Lib.hid hne
          have HS24 := Lib.hid hs24
          have HZ9 := Lib.hid hz9
          have HRL := Lib.hid hrl
          have HSV := Lib.hid hsv
          have HCUR := Lib.hid hcur4
          have c0 := cell_of_row _ _ 0 _ _ (0, 0) hq0
          have c1 := cell_of_row _ _ 1 _ _ (0, 0) hq0
          have d0 := Gn.frozen_row hq0 0
          have d1 := Gn.frozen_row hq0 1
          have HW4 := Lib.hid hW4
          clear hcm hcc hco hb3 hq0 hq1 hk4 hs4 hp0 hp1 hb4 hom hoc hown hnm9 hdis hne hs24 hW4 y0 y1 hz9 hrl hsv hownk hck hc4 hcur4 hcsz4
          go_upto_region 10 with fail
          clear c0 c1 d0 d1
          rw [← HW4.out]
          have c1 := cell_of_row _ _ 1 _ _ (0, 0) HP0.out
          go_wp2_with fail
          refine HJ.out.mono ?_
          rintro e w5 ⟨rfl, w1', v6, rfl, hg6, hst6⟩
          have hz9 := HZ9.out
          have hs61 := hg6.size
          have hgl := Gn.heap_lt HCUR.out
          have hbase := fun q hq => Gn.own_block HOK.out.1 q hq
          have hg4b : w21.heap.size ≤ g4 := Gn.own_block HOC.out g4 rfl
          have hsvg : sv.ownBlock ≠ some g4 := fun e => (HOK.out.2 g4 e).2 rfl
          have h64 : ∀ q, q < W4.heap.size → sv.ownBlock ≠ some q → w1'.heap[q]? = W4.heap[q]? := fun q hq hne => hg6.block q hq (fun e => hne e.symm)
          obtain ⟨A8, c8, hv8⟩ := hst6.form
          obtain ⟨w5, hw5⟩ : ∃ w5, w5 = w1'.setCell ⟨g4, k * 3 + 2, none⟩ v6 := ⟨_, rfl⟩
          have hk5 : ∀ b, g4 ≠ b → w5.heap[b]? = w1'.heap[b]? := fun b hb => by rw [hw5]; exact Gn.set_keep _ _ _ hb
          have hs5 : w5.heap.size = w1'.heap.size := by rw [hw5]; simp [World.setCell]
          have hp0 : w5.heap[W.heap.size]? = some (.cells #[.slice A3 n c3, .slice (some ⟨g4, 0, none⟩) m c4] 27 (0, 0)) := (hk5 _ (by omega)).trans ((h64 _ (Gn.heap_lt HP0.out) (fun e => by have := hbase _ e; omega)).trans HP0.out)
          have hp1 : w5.heap[W.heap.size + 1]? = some (.cells #[.slice none 0 0, .slice none 0 0] 27 (0, 0)) := (hk5 _ (by omega)).trans ((h64 _ (Gn.heap_lt HP1.out) (fun e => by have := hbase _ e; omega)).trans HP1.out)
          obtain ⟨W8, hW8⟩ : ∃ W8, W8 = (w5.setCell ⟨W.heap.size + 1, 0, none⟩ (.slice A3 n c3)).setCell ⟨W.heap.size + 1, 1, none⟩ (.slice (some ⟨g4, 0, none⟩) m c4) := ⟨_, rfl⟩
          have hk8 : ∀ b, W.heap.size + 1 ≠ b → W8.heap[b]? = w5.heap[b]? := fun b h2 => by rw [hW8]; exact (Gn.set_keep _ _ _ h2).trans (Gn.set_keep _ _ _ h2)
          have hs8 : W8.heap.size = w5.heap.size := by rw [hW8]; simp [World.setCell]
          have hres : W8.heap[W.heap.size + 1]? = some (.cells #[.slice A3 n c3, .slice (some ⟨g4, 0, none⟩) m c4] 27 (0, 0)) := by rw [hW8]; exact Gn.heap_set (Gn.heap_set hp1 0 _) 1 _
          have hbel : Below W.heap.size W W8 := by
            have h1 : Below W.heap.size W w1' := ⟨hg6.os.trans HB4.out.os, hg6.tape.trans HB4.out.tape, hg6.output.trans HB4.out.output, Nat.le_trans HB4.out.size hs61, fun q hq => (h64 q (by have := HB4.out.size; omega) (fun e => by have := hbase _ e; omega)).trans (HB4.out.block q hq)⟩
            rw [hW8, hw5]
            exact ((h1.setCell (by show W.heap.size ≤ g4; omega) _).setCell (by simp) _).setCell (by simp) _
          have hfin : OpOut W (joinM r nm tc) (.returned (.tuple #[.agg #[.slice A3 n c3, .slice (some ⟨g4, 0, none⟩) m c4], .int .i64 0])) W8 := by
            rw [HR.out]
            have hrl := HRL.out
            have hkr : k < raws.length := by rw [hrl]; exact HKC2.out
            have hm8 : W8.ownsRow w21.heap.size 45 3 (.slice A3 n c3) r.ms.length (cellsOf encM r.ms) := by
              rw [← HNN.out]
              exact own_keep HOM.out fun q hq => (hk8 q (by have := Gn.own_block HOM.out q hq; omega)).trans ((hk5 q (fun e => HNE.out q hq (by rw [← e]; rfl))).trans (h64 q (Gn.own_lt HOM.out q hq) (fun e => (HOK.out.2 q e).1 hq)))
            have hoc1 : w1'.ownsRow w21.heap.size 53 3 (.slice (some ⟨g4, 0, none⟩) m c4) m (cellsOf encC raws) := own_keep HOC.out fun q hq => h64 q (Gn.own_lt HOC.out q hq) (fun e => (HOK.out.2 q e).2 hq)
            have hc8 : W8.ownsRow w21.heap.size 53 3 (.slice (some ⟨g4, 0, none⟩) m c4) (r.cs.set k ⟨c.name, c.teacher, insN c.studs tc⟩).length (cellsOf encC (raws.set k ⟨raws[k].name, raws[k].teacher, v6⟩)) := by
              rw [List.length_set, ← HMM.out]
              have h5 := own_studs hoc1 (by rw [hrl, HMM.out]) hkr v6
              rw [← hw5] at h5
              exact own_keep h5 fun q hq => hk8 q (by have := Gn.own_block h5 q hq; omega)
            have ha8 : AllC (fun b => w21.heap.size ≤ b) W8 (raws.set k ⟨raws[k].name, raws[k].teacher, v6⟩) (r.cs.set k ⟨c.name, c.teacher, insN c.studs tc⟩) := by
              refine ⟨by rw [List.length_set, List.length_set, hrl], fun i h1 h2 => ?_⟩
              by_cases hik : i = k
              · subst hik
                rw [List.getElem_set_self, List.getElem_set_self]
                obtain ⟨n1, n2⟩ := HNM9.out i hkr HKC2.out
                rw [← HC9.out] at n1 n2
                exact ⟨n1, n2, hst6.keep (by rw [hs8, hs5]; exact Nat.le_refl _) fun q hq _ => ⟨hq.1, fun j => Gn.cell_same ((hk8 q (by have := hq.1; omega)).trans (hk5 q (fun e => by
                  rcases hq.2 with h9 | h9
                  · exact hsvg (by rw [e]; exact h9)
                  · omega))) j⟩⟩
              · have hi1 : i < raws.length := by simpa using h1
                have hi2 : i < r.cs.length := by simpa using h2
                rw [List.getElem_set_ne (fun e => hik e.symm), List.getElem_set_ne (fun e => hik e.symm)]
                obtain ⟨n1, n2⟩ := HNM9.out i hi1 hi2
                obtain ⟨o1, o2⟩ := HOWN.out i hi1 hi2
                have o3 : ∀ q, raws[i].studs.ownBlock = some q → sv.ownBlock ≠ some q := fun q hq e => by
                  rw [HSV.out] at e
                  rcases Nat.lt_or_ge i k with h9 | h9
                  · exact HDIS.out i k hi1 hkr h9 q hq e
                  · exact HDIS.out k i hkr hi1 (by omega) q e hq
                exact ⟨n1, n2, (strs_owned (own_keep (w' := W8) o1 fun q hq => (hk8 q (by have := Gn.own_block o1 q hq; omega)).trans ((hk5 q (fun e => (o2 q hq).2 (by rw [← e]; rfl))).trans (h64 q (Gn.own_lt o1 q hq) (o3 q hq))))).keep (Nat.le_refl _) fun q hq _ => ⟨hq.1, fun _ => rfl⟩⟩
            exact ⟨_, rfl, (rl_done (r := ⟨r.ms, r.cs.set k ⟨c.name, c.teacher, insN c.studs tc⟩⟩) hm8 hc8 ha8).keep (Nat.le_refl _) (fun q hq _ => ⟨by omega, fun _ => rfl⟩), hbel⟩
          have b0 := cell_of_row _ _ 0 _ _ (0, 0) hp0
          have b1 := cell_of_row _ _ 1 _ _ (0, 0) hp0
          have s0 := cell_of_row _ _ 0 _ _ (0, 0) hp1
          have s1 := cell_of_row _ _ 1 _ _ (0, 0) hp1
          have sf0 := Gn.frozen_row hp1 0
          have sf1 := Gn.frozen_row hp1 1
          have HRES := Lib.hid hres
          have HFIN := Lib.hid hfin
          have HW8 := Lib.hid hW8
          rw [← hw5]
          clear hg6 hst6 hz9 hs61 hgl hbase hg4b hsvg h64 hv8 hk5 hs5 hp0 hp1 hk8 hs8 hres hbel hfin hW8 c1 hw5
          go_wp2_with fail
          rw [← HW8.out]
          refine bodyPost_ret (results_ct (P := Tryz.prog) rfl _ _ (W.heap.size + 1) 27 _ (0, 0) _ _ rfl rfl HRES.out Tryz.underlying27 rfl (by kernel_rfl)) rfl ?_
          exact HFIN.out
      · have hr3 : (x2 != 1) = true := by simpa using hr2
        have HR := Lib.hid (show joinM r nm tc = .error 13 by rw [HRE.out]; simp [hr2])
        go_wp2_with fail
        refine bodyPost_ret (results_ct (P := Tryz.prog) rfl _ _ (W.heap.size + 1) 27 _ (0, 0) _ _ rfl rfl HRS.out Tryz.underlying27 rfl (by kernel_rfl)) rfl ?_
        rw [HR.out]
        exact ⟨_, rfl, rl_zero _ _, HBE.out⟩
end Go.Proofs.YtnmhgjoofgmcgaaGreat.Rl
