/-
  How the law's argument reads: numbers and rows of numbers.
-/
import Derived.Test.YtdknlifpoihnmaaFxPr
import Derived.Test.YtdknlifpoihnmaaTrP
import Derived.Deep.Matrix
import Derived.ChangeOld
import Derived.ProofKit
import Derived.OpenShut
import Derived.ShutString
namespace Go.Proofs.Ytdknlifpoihnmaa.Fx
open Go.RowKit
open Go.ChangeShapes Go.WideShapes
set_option maxRecDepth 100000
section
variable {H : Type} {enc : TypeId × Value → H} {w : World} {base : Nat} {held : Bool}
theorem addr_at {x : Addr} {v : Value} (h : w.cell? (x.add 0) = some v) : ∃ b off, x = ⟨b, off, none⟩ ∧ b < w.heap.size := by
  obtain ⟨b, off, spot⟩ := x
  have hspot : spot = none := by simpa [Addr.add] using World.cell?_spot h
  subst hspot
  exact ⟨b, off, rfl, by simpa [Addr.add] using World.block_lt_of_cell? w _ h⟩
theorem addr_add (b off i : Nat) : (⟨b, off, none⟩ : Addr).add i = ⟨b, off + i, none⟩ := by unfold Addr.add; split <;> simp_all
theorem NumsIn.of {A : Option Addr} {L C : Nat} {Z : List Int} (hL : L ≤ C) (hZ : Z.length = C) (hn : A = none → C = 0) (hc : ∀ a', A = some a' → ∀ c, c < C → w.cell? (a'.add c) = some (.int .i64 (Z.getD c 0))) : NumsIn w (Z.take L) (.slice A L C) := by
  have hl : (Z.take L).length = L := by rw [List.length_take]; omega
  cases A with
  | none =>
    have := hn rfl
    exact ⟨none, C, 0, 0, by rw [hl], fun h => absurd h (by rw [hl]; omega), fun i hi => absurd hi (by rw [hl]; omega)⟩
  | some a =>
    rcases Nat.eq_zero_or_pos L with h0 | h0
    · exact ⟨some a, C, 0, 0, by rw [hl], fun h => absurd h (by rw [hl]; omega), fun i hi => absurd hi (by rw [hl]; omega)⟩
    · obtain ⟨b, off, rfl, hb⟩ := addr_at (hc a rfl 0 (by omega))
      refine ⟨some ⟨b, off, none⟩, C, b, off, by rw [hl], fun _ => ⟨rfl, hb⟩, fun i hi => ?_⟩
      have hi2 : i < L := by rw [← hl]; exact hi
      rw [← addr_add, hc _ rfl i (by omega)]
      simp [List.getD, List.getElem?_eq_getElem (show i < Z.length by omega)]
theorem nums_in {fuel : Nat} {v : Value} {y : DataW H × List MemPlace} (h : DataW.trod enc Try.prog w base (fun _ => true) held fuel 22 [v] = some y) : ∃ l, NumsIn w l v ∧ l.length ≤ maxLen := by
  rcases open_ints Try.underlying22 Try.underlying3 (by kernel_rfl) h with ⟨hcs, _⟩ | ⟨x, l, c, zs, hcs, _, hl, hm, hz, _, hcell, _⟩
  · injection hcs with hcs
    subst hcs
    exact ⟨[], ⟨none, 0, 0, 0, rfl, fun h => absurd h (by simp), fun i hi => absurd hi (by simp)⟩, by simp⟩
  · injection hcs with hcs
    subst hcs
    simp only [if_true] at hz
    exact ⟨zs.take l, NumsIn.of hl hz (fun h => by cases h) (fun a' h i hi => by injection h with h; subst h; exact hcell i (by omega)), by rw [List.length_take]; omega⟩
theorem rows_in {fuel : Nat} {v : Value} {y : DataW H × List MemPlace} (h : DataW.trod enc Try.prog w base (fun _ => true) held fuel 23 [v] = some y) : ∃ ls, RowsIn w ls v ∧ ls.length ≤ maxLen ∧ ∀ r ∈ ls, r.length ≤ maxLen := by
  rcases Go.Deep.open_int_rows Try.underlying23 Try.underlying22 Try.underlying3 (by kernel_rfl) (by kernel_rfl) h with ⟨hcs, _⟩ | ⟨x, l, c, A, L, C, Z, hcs, _, hl, hm, _, hrow⟩
  · injection hcs with hcs
    subst hcs
    exact ⟨[], ⟨none, 0, 0, 0, fun _ => .bool false, rfl, fun h => absurd h (by simp), fun i hi => absurd hi (by simp)⟩, by simp, by simp⟩
  · injection hcs with hcs
    subst hcs
    have hlen : ((List.range l).map fun r => (Z r).take (L r)).length = l := by simp
    refine ⟨(List.range l).map fun r => (Z r).take (L r), ?_, by rw [hlen]; omega, fun r hr => ?_⟩
    · rcases Nat.eq_zero_or_pos l with h0 | h0
      · exact ⟨some x, c, 0, 0, fun _ => .bool false, by rw [hlen], fun h => absurd h (by rw [hlen]; omega), fun i hi => absurd hi (by rw [hlen]; omega)⟩
      · obtain ⟨b, off, rfl, hb⟩ := addr_at (hrow 0 (by omega)).1
        refine ⟨some ⟨b, off, none⟩, c, b, off, fun r => .slice (A r) (L r) (C r), by rw [hlen], fun _ => ⟨rfl, hb⟩, fun i hi => ?_⟩
        have hi2 : i < l := by rw [← hlen]; exact hi
        obtain ⟨h1, h2, h3, h4, _, h6, h7⟩ := hrow i (by omega)
        rw [addr_add] at h1
        refine ⟨h1, ?_⟩
        have e : ((List.range l).map fun r => (Z r).take (L r))[i] = (Z i).take (L i) := by simp
        rw [e]
        exact NumsIn.of h2 h4 h6 (fun a' ha i hi => (h7 a' ha).2 i hi)
    · obtain ⟨i, hi, rfl⟩ := List.mem_map.1 hr
      obtain ⟨h1, h2, h3, h4, _⟩ := hrow i (by have := List.mem_range.1 hi; omega)
      rw [List.length_take]; omega
theorem raw_in {fuel : Nat} {c0 c1 c2 c3 c4 : Value} {y : DataW H × List MemPlace} (h : DataW.trod enc Try.prog w base (fun _ => true) held fuel 25 [c0, c1, c2, c3, c4] = some y) :
    ∃ (N T St : Int) (l : List Int) (ls : List (List Int)), c0 = .int .i64 N ∧ c1 = .int .i64 T ∧ c2 = .int .i64 St ∧ NumsIn w l c3 ∧ RowsIn w ls c4 ∧ l.length ≤ maxLen ∧ ls.length ≤ maxLen ∧ ∀ r ∈ ls, r.length ≤ maxLen := by
  obtain ⟨xs, m, _, _, _, hlen, hf⟩ := DataW.trod_struct Try.underlying25 h
  match xs, hlen with
  | [y0, y1, y2, y3, y4], _ =>
    have f0 := hf 0 _ rfl
    have f1 := hf 1 _ rfl
    have f2 := hf 2 _ rfl
    have f3 := hf 3 _ rfl
    have f4 := hf 4 _ rfl
    simp only [List.getElem?_cons_zero, List.getElem?_cons_succ] at f0 f1 f2 f3 f4
    obtain ⟨k, h0, _, _⟩ := DataW.trod_int Try.underlying3 f0
    obtain ⟨n, h1, _, _⟩ := DataW.trod_int Try.underlying3 f1
    obtain ⟨s, h2, _, _⟩ := DataW.trod_int Try.underlying3 f2
    obtain ⟨l, h3, h3l⟩ := nums_in f3
    obtain ⟨ls, h4, h4l, h4r⟩ := rows_in f4
    injection h0 with h0
    injection h1 with h1
    injection h2 with h2
    exact ⟨k, n, s, l, ls, h0, h1, h2, h3, h4, h3l, h4l, h4r⟩
end
theorem arr5 : ∀ cs : Array Value, cs.size = 5 → ∃ c0 c1 c2 c3 c4, cs = #[c0, c1, c2, c3, c4]
  | ⟨[c0, c1, c2, c3, c4]⟩, _ => ⟨c0, c1, c2, c3, c4, rfl⟩
theorem raw_cells : Try.prog.cellsOf 25 = 5 := by kernel_rfl
theorem raw_arg {W : World} {base : Nat} {v : Value} (h : Value.okWide Try.prog W .any base 25 v) : ∃ c0 c1 c2 c3 c4, v = .agg #[c0, c1, c2, c3, c4] := by
  obtain ⟨cs, rfl, hcs⟩ := okWide_struct Try.underlying25 h
  rw [raw_cells] at hcs
  obtain ⟨c0, c1, c2, c3, c4, rfl⟩ := arr5 cs hcs
  exact ⟨c0, c1, c2, c3, c4, rfl⟩
/-- Numbers of the input, with all that a piece of them wants. -/
def NumsAt (W : World) (l : List Int) (v : Value) : Prop :=
  ∃ (A : Option Addr) (cap : Nat), v = .slice A l.length cap ∧ l.length ≤ cap ∧ (A = none → cap = 0) ∧ ∀ ad, A = some ad → ∀ (i : Nat) (h : i < l.length), W.cell? (ad.add i) = some (.int .i64 l[i])
theorem nums_at {H : Type} {enc : TypeId × Value → H} {w : World} {base : Nat} {held : Bool} {fuel : Nat} {v : Value} {y : DataW H × List MemPlace} (h : DataW.trod enc Try.prog w base (fun _ => true) held fuel 22 [v] = some y) : ∃ l, NumsAt w l v ∧ l.length ≤ maxLen := by
  rcases open_ints Try.underlying22 Try.underlying3 (by kernel_rfl) h with ⟨hcs, _⟩ | ⟨x, l, c, zs, hcs, _, hl, hm, hz, _, hcell, _⟩
  · injection hcs with hcs
    subst hcs
    exact ⟨[], ⟨none, 0, rfl, Nat.le_refl _, fun _ => rfl, fun ad h => (by cases h)⟩, by simp⟩
  · injection hcs with hcs
    subst hcs
    simp only [if_true] at hz
    have hlen : (zs.take l).length = l := by rw [List.length_take]; omega
    refine ⟨zs.take l, ⟨some x, c, by rw [hlen], by rw [hlen]; exact hl, fun h => (by cases h), fun ad h i hi => ?_⟩, by rw [hlen]; omega⟩
    injection h with h
    subst h
    have hi2 : i < l := by rw [← hlen]; exact hi
    rw [hcell i (by omega)]
    simp [List.getD, List.getElem?_eq_getElem (show i < zs.length by omega)]
theorem NumsAt.under {W W' : World} {l : List Int} {v : Value} (h : NumsAt W l v) (b : Below W.heap.size W W') : NumsAt W' l v := by
  obtain ⟨A, cap, h1, h2, h3, h4⟩ := h
  exact ⟨A, cap, h1, h2, h3, fun ad e i hi => (b.cell (World.block_lt_of_cell? W _ (h4 ad e i hi))).trans (h4 ad e i hi)⟩
/-- append of a piece of the input's numbers to a row of one's own. -/
theorem wpList_append_in {ops : Array Oper} {rest : List Oper} {o : Oper} {a : Act} {Q : Exit → Act → World → Prop} (w : World) (hgd : o.guard = none) (s x : Operand)
    (ho : o.op = .call { callee := .builtin .append, args := #[s, x], argTypes := #[22, 22] })
    (base : Nat) (v : Value) (n : Nat) (xs : List Value) (hs : a.eval s = v) (hown : w.ownsRow base 3 1 v n xs) (A : Option Addr) (m c : Nat) (l : List Int) (hx : a.eval x = .slice A m c) (hl : l.length = m) (hA : A = none → m = 0 ∧ c = 0)
    (hc : ∀ ad, A = some ad → ∀ (j : Nat) (h : j < l.length), w.cell? (ad.add j) = some (.int .i64 l[j])) (hm : n + l.length ≤ 8796093022208) (hb : base ≤ w.heap.size)
    (h : ∀ v' w', w'.ownsRow base 3 1 v' (n + l.length) (xs ++ l.map (Value.int .i64)) → w.grownBy w' v.ownBlock → wpList Try.prog ops Q rest (a.put o.dst v') w') : wpList Try.prog ops Q (o :: rest) a w := by
  obtain ⟨i0, hi0, hz0, hz1, hz2⟩ := info_parts Fx.iinfo
  subst hl
  cases A with
  | none =>
    obtain ⟨h0, rfl⟩ := hA rfl
    have e := List.eq_nil_of_length_eq_zero h0
    subst e
    exact Tr.wpList_append_ints w hgd s x ho base v n xs hs hown (fun _ => True) [] _ hx ⟨none, 0, 0, rfl, Nat.le_refl _, fun h => absurd h (by simp), fun i hi => absurd hi (by simp)⟩ hm hb (fun v' w' h1 h2 _ => h v' w' h1 h2)
  | some ad =>
    refine wpList_append_own (P := Try.prog) w hgd s x 22 ho base 3 i0 (.int .i64 0) 1 8 Try.underlying22 hi0 hz0 hz1 hz2 rfl (by decide) v n xs hs hown ad l.length c (l.map (Value.int .i64)) hx (by simp) (fun j u hj => ?_) (by simp [Value.oneCell']) (by unfold maxLen; omega) (by omega) hb (fun v' w' h1 h2 _ => h v' w' h1 h2)
    obtain ⟨h0, hj2⟩ : ∃ h0 : j < l.length, Value.int .i64 l[j] = u := by
      rw [List.getElem?_map] at hj
      rcases Nat.lt_or_ge j l.length with h0 | h0
      · rw [List.getElem?_eq_getElem h0] at hj; exact ⟨h0, by injection hj⟩
      · rw [List.getElem?_eq_none h0] at hj; cases hj
    rw [← hj2]
    exact hc ad rfl j h0
end Go.Proofs.Ytdknlifpoihnmaa.Fx
