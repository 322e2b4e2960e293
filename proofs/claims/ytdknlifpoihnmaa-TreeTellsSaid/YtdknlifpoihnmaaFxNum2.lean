/-
  The walk of numbers, whole; of distinct.
-/
import Derived.Test.YtdknlifpoihnmaaFxNum
import Derived.Test.YtdknlifpoihnmaaFxSmall
namespace Go.Proofs.Ytdknlifpoihnmaa.Fx
open Go.RowKit Go.Shelf
open Gn (Asks)
attribute [local go_sem] Oper.semAt_some

theorem cell_of_box_n {W : World} {B : Nat} {v : Value} {t : TypeId} (h : W.heap[B]? = some (.cells #[v] t (0, 0))) : W.cell? ⟨B, 0, none⟩ = some v ∧ W.frozen? ⟨B, 0, none⟩ = false := by
  constructor <;> simp [World.cell?, World.frozen?, h]
theorem cell_new_n (W : World) (v : Value) (t : TypeId) : (W.alloc (.cells #[v] t)).cell? ⟨W.heap.size, 0, none⟩ = some v ∧ (W.alloc (.cells #[v] t)).frozen? ⟨W.heap.size, 0, none⟩ = false :=
  cell_of_box_n (World.alloc_heap_new W _)
theorem cell_alloc_n {W : World} {a : Addr} {v : Value} (o : Obj) (h : W.cell? a = some v) : (W.alloc o).cell? a = some v := cell_kept h (World.grownBy_alloc W o none) (fun r e => by cases e)

/-- Each text that came, put at its place, one behind another. -/
def numD (xs : List Nm) : DataW Unit := xs.foldl (fun D x => D.put (.string x.1.2.data.toList) (.lit (.int .i64 x.1.1))) (.map [])
theorem numD_snoc (pre : List Nm) (x : Nm) : numD (pre ++ [x]) = (numD pre).put (.string x.1.2.data.toList) (.lit (.int .i64 x.1.1)) := by simp [numD]

set_option maxRecDepth 100000 in
set_option maxHeartbeats 4000000 in
theorem numbers_in (F : Fence) (n : Nat) (h3 : F.fn 76) (h4 : F.fn 91) (h5 : F.fn 100) (hro : F.round = none) (hn : 3 ≤ n) (b len cap : Nat) (A : Option Addr) (f : Nat → Nm) (hlen : len ≤ 1099511627776) (w : World) (hA : 0 < len → A = some ⟨b, 0, none⟩ ∧ b < w.heap.size)
    (hc : ∀ j, j < len → w.cell? ⟨b, len - 1 - j, none⟩ = some (.string (f j).1.2)) (hf : ∀ j, j < len → (f j).1.1 = ((len - 1 - j : Nat) : Int)) :
    CallsIn F n Try.prog 76 #[.slice A len cap] w fun e W' => e = .returned (.map (some w.heap.size)) ∧ W'.ownsMap Try.prog 9 (plainElem (H := Unit) Try.prog 3) w.heap.size len (numD (upto f len)) ∧ Below w.heap.size w W' := by
  have h1 : 1 ≤ n := by omega
  have hmm := @run_makeMap Try.prog
  refine callsIn_of_wp_marks Try.func76 rfl h3 ?_ hro
  simp only [Try.ntmps76, List.size_toArray, List.length_cons, List.length_nil, Nat.reduceAdd, Nat.reduceSub, Array.replicate_succ, Array.replicate_zero, List.push_toArray, List.append_toArray, List.nil_append, List.cons_append]
  gi_wp2_with (gi_at_call 91; refine (back_in F (n - 1) h4 hro _ _ _ _).mono ?_; rintro e w' ⟨rfl, rfl⟩)
  have hm0 := World.ownsMap_made w Try.prog 9 (plainElem (H := Unit) Try.prog 3)
  have cS := cell_new_n (w.alloc (.map #[] 0)) (.map (some w.heap.size)) 140
  have cN := cell_new_n ((w.alloc (.map #[] 0)).alloc (.cells #[.map (some w.heap.size)] 140)) (.slice A len cap) 28
  simp only [World.size_alloc] at cS cN
  have hB0 : Below w.heap.size w (((w.alloc (.map #[] 0)).alloc (.cells #[.map (some w.heap.size)] 140)).alloc (.cells #[.slice A len cap] 28)) := (((Below.refl _ w).alloc (Nat.le_refl _) _).alloc (by simp) _).alloc (by simp; omega) _
  refine wpIn_rangeFunc_ownG hro h1 (gf := 100) (lb := #[.pointer (some ⟨w.heap.size + 1 + 1, 0, none⟩)]) rfl h5 (enters_of Try.func100 (by kernel_rfl) rfl)
    (back_stops F (n - 1) h5 hro (by omega) (w.heap.size + 1 + 1) w.heap.size b len cap A f hlen hA _ (by simp) (by simp; omega) cN.1 (fun j hj => (hB0.cell (p := ⟨b, len - 1 - j, none⟩) (show b < w.heap.size from (hA (by omega)).2)).trans (hc j hj)) hf) (fun h k => h.trans k) (fun W l o o' g1 g2 g3 g4 k hk => (belowK_b (n₀ := w.heap.size + 3) (by simp) W l o o' g1 g2 g3 g4).block k (by omega)) (Below.refl _ _) (fun _ => rfl)
    (fun pre W => (W.cell? ⟨w.heap.size + 1, 0, none⟩ = some (.map (some w.heap.size)) ∧ W.ownsMap Try.prog 9 (plainElem (H := Unit) Try.prog 3) w.heap.size pre.length (numD pre) ∧ w.heap.size + 3 ≤ W.heap.size) ∧ Below w.heap.size w W)
    (fun _ _ _ => False)
    (OwnFrom.and (fun s A B row hs hg hr => ⟨cell_kept hs.1 hg (fun r e => (hr r e).2), hs.2.1.kept hg (fun e => by have := (hr _ e.symm).1; simp at this; omega), Nat.le_trans hs.2.2 hg.size⟩) (ownFrom_below (Nat.le_refl _) (by simp; omega)))
    (fun _ _ _ _ _ hs _ _ => hs)
    ⟨⟨cell_alloc_n _ cS.1, (hm0.alloc _).alloc _, by simp⟩, hB0⟩
    (fun x => { tmps := #[.slice A len cap, undef, .map none, .pointer (some ⟨w.heap.size + 1, 0, none⟩), .int .i64 x.1.1, .string x.1.2, .map (some w.heap.size), .slice A len cap, .func (.func 100) #[] #[.pointer (some ⟨w.heap.size + 1 + 1, 0, none⟩)], .int .i64 x.1.1, .string x.1.2, undef, undef, undef, undef], defers := [] }) ?assign ?body ?done ?stop
  case assign =>
    intro l x W K hK
    gi_wp2
    exact hK
  case body =>
    rintro l pre x W ⟨⟨hc, hown, hsz⟩, hB⟩ hlt
    have hml : pre.length < maxLen := by unfold maxLen; omega
    have hkey := Go.WideMaps.keyOf_string_mk (P := Try.prog) Try.underlying9 x.2.2
    gi_wp2_with (gi_at_mapUpdate; refine wpListIn_mapUpdate_own _ rfl _ _ _ 140 rfl 9 3 (Maps.string_keyed Try.underlying9) Try.underlying140 _ w.heap.size pre.length _ rfl hown hml _ _ _ rfl rfl hkey _ [] (plainElem_int Try.underlying3 x.2.1) ?_; intro w1 hown1 hgrow1)
    obtain ⟨es, ck, hh, _⟩ := hown
    exact ⟨KeepsFrom.of_grownBy hgrow1 (fun j e => by cases e; simp; omega), fun k hk => hgrow1.block k (by omega) (fun e => by cases e; omega),
      ⟨cell_kept hc hgrow1 (fun r e => by cases e; exact ⟨_, hh, rfl⟩), by rw [numD_snoc, List.length_append]; exact hown1, Nat.le_trans hsz hgrow1.size⟩, hB.grown hgrow1 hB.size (fun k e => by cases e; exact Nat.le_refl _)⟩
  case done =>
    rintro D ys W hD rfl ⟨⟨hc, hown, hsz⟩, hB⟩ hK
    rw [upto_length] at hown
    gi_wp2
    refine ⟨by simp, .inl ⟨_, _, rfl, run_takeDeferred hK, ?_⟩⟩
    exact ⟨_, results_tmp rfl _ _ _, rfl, hown.kept (grownBy_putObj' _ D _) (fun e => by cases e; simp at hD; omega), hB.trans (belowK_b (w := w) (Nat.le_refl _) W D _ _ (by simp at hD; omega) hK rfl rfl)⟩
  case stop =>
    rintro D c pre W _ _ h _
    exact h.elim
end Go.Proofs.Ytdknlifpoihnmaa.Fx
