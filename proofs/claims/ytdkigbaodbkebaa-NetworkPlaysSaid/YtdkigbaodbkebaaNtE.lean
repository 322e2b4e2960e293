/-
  Layer 27: slices.Delete of one frame of a row of the call's own.
-/
import Derived.Test.YtdkigbaodbkebaaNtD
import Derived.Deep.RegionLaw
import Derived.Laws.Slices
import Derived.WalkKit
namespace Go.Proofs.Ytdkigbaodbkebaa.Nt
open Go.RowKit
set_option maxRecDepth 100000
set_option linter.unusedSimpArgs false
set_option linter.unusedVariables false
theorem step_append_runI {P : Program} {ops : Array Oper} {o : Oper} {a : Act} {w : World} {K : Act → World → Prop} {Q : Exit → Act → World → Prop} {E : Prop}
    (hg : o.guard = none) (d x : Operand) (dT sT : TypeId) (hop : o.op = Op.call { callee := Callee.builtin Builtin.append, args := #[d, x], argTypes := #[dT, sT] })
    (v u : Value) (hd : a.eval d = v) (hx : a.eval x = u) {v' : Value} {w' : World} (hr : (Builtin.append_ #[dT, sT] o.type #[v, u]).run P w = .ok v' w') (hK : K (a.put o.dst v') w') :
    if Region.wanted o (yielded ops a.tmps) = true then Oper.wp P o a w K Q else E := by
  have hw : Region.wanted o (yielded ops a.tmps) = true := by simp [Region.wanted, hg]
  rw [if_pos hw]
  unfold Oper.wp
  simp [execOp, hop, resolve, invoke, builtin, hd, hx, hr, Result.andThen]
  exact hK
theorem run_clear_one {P : Program} (w : World) (t e ty : TypeId) (z : Value) (zs : List Value) (ht : P.underlying t = some (.slice e)) (hv : ∀ w, (zeroValue e).run P w = .ok z w) (hz : (Builtin.zeroCells z.cells 1).toList = zs) (h1 : ∀ u ∈ zs, u.oneCell' = true) (g o c : Nat) (cur : Array Value) (T : TypeId) (hg : w.heap[g]? = some (.cells cur T (0, 0))) (hfit : o + zs.length ≤ cur.size) :
    (Builtin.clear_ #[t] ty #[.slice (some ⟨g, o, none⟩) 1 c]).run P w = .ok (.tuple #[]) (w.setRow g (cur.toList.take o ++ zs ++ cur.toList.drop (o + zs.length)).toArray) := by
  have hst := run_storeCells_at P g o T zs 0 cur w hg (by simpa using hfit) h1
  simp only [Nat.add_zero] at hst
  simp [Builtin.clear_, run_underlying ht, hv, hz, hst]
theorem zero_one (z : Array Value) {k : Nat} (hk : z.size = k) : Builtin.zeroCells z 1 = z := by
  apply Array.ext
  · simp [Builtin.zeroCells]
  · intro i h1 h2
    have h3 : i % z.size = i := Nat.mod_eq_of_lt h2
    simp [Builtin.zeroCells, h3, h2]
/-- What Delete of one struct tells of a row. -/
def DelOut (T : TypeId) (base : Nat) (W : World) (g cap n : Nat) (xs : List Value) (i : Nat) (e : Ending) (w' : World) : Prop := e = .returned (.slice (some ⟨g, 0, none⟩) (n - 1) cap) ∧ w'.ownsRow base T 4 (.slice (some ⟨g, 0, none⟩) (n - 1) cap) (n - 1) (xs.take (i * 4) ++ xs.drop ((i + 1) * 4)) ∧ W.grownBy w' (some g)
set_option maxHeartbeats 8000000 in
theorem del_Fr (base : Nat) (W : World) (g cap n i : Nat) (xs : List Value) (hown : W.ownsRow base 35 4 (.slice (some ⟨g, 0, none⟩) n cap) n xs) (hn : n ≤ 4096) (hi : i < n) (h1 : ∀ u ∈ xs, u.oneCell' = true) (hb : base ≤ W.heap.size) :
    Calls Try.prog 16 #[.slice (some ⟨g, 0, none⟩) n cap, .int .i64 i, .int .i64 ((i + 1 : Nat) : Int)] W (DelOut 35 base W g cap n xs i) := by
  obtain ⟨i0, hi0, hz0, hz1, hz2⟩ := info_split fr_info
  have hxl := hown.1
  rcases hown.2 with ⟨h0, _⟩ | ⟨g', cap', cur, h0, hbg, hh, hnc, hcm, hcs, hct⟩
  · cases h0
  injection h0 with h0 _ h0c
  injection h0 with h0
  injection h0 with h0
  subst h0
  subst h0c
  have hcm2 : cap ≤ 9223372036854775807 := hcm
  obtain ⟨j, hj⟩ : ∃ j, j = i + 1 := ⟨_, rfl⟩
  rw [← hj]
  obtain ⟨q, hq⟩ : ∃ q, q = i + (n - j) := ⟨_, rfl⟩
  have hcl : cur.toList.length = cap * 4 := by rw [Array.length_toList]; exact hcs
  obtain ⟨news, hnews⟩ : ∃ news, news = xs.drop (j * 4) := ⟨_, rfl⟩
  have hnl : news.length = (n - j) * 4 := by rw [hnews, List.length_drop, hxl, Nat.sub_mul]
  have hnl1 : news.length = (n - j) * i0.size := by rw [hz1]; exact hnl
  obtain ⟨r1, hr1⟩ : ∃ r1, r1 = cur.toList.take (i * 4) ++ news ++ cur.toList.drop (i * 4 + news.length) := ⟨_, rfl⟩
  have hr1l : r1.length = cap * 4 := by rw [hr1, List.length_append, List.length_append, hnl, List.length_take, List.length_drop, hcl]; omega
  obtain ⟨zs, hzs⟩ : ∃ zs : List Value, zs = [.int .i64 0, .int .i64 0, .string ⟨#[]⟩, .bool false] := ⟨_, rfl⟩
  have hzl : zs.length = 4 := by rw [hzs]; rfl
  obtain ⟨r2, hr2⟩ : ∃ r2, r2 = r1.take (q * 4) ++ zs ++ r1.drop (q * 4 + zs.length) := ⟨_, rfl⟩
  have hr2l : r2.length = cap * 4 := by rw [hr2, List.length_append, List.length_append, hzl, List.length_take, List.length_drop, hr1l]; omega
  have hr2t : r2.take (q * 4) = xs.take (i * 4) ++ xs.drop ((i + 1) * 4) := by
    have h9 : (cur.toList.take (i * 4) ++ news).length = q * 4 := by rw [List.length_append, hnl, List.length_take, hcl]; omega
    rw [hr2, List.append_assoc, List.take_append_of_le_length (by rw [List.length_take, hr1l]; omega), List.take_take, Nat.min_self, hr1, ← h9, List.take_left, ← hj, ← hnews, ← hct, List.take_take, Nat.min_eq_left (by omega)]
  obtain ⟨A, hA, hsrc⟩ : ∃ A : Addr, (if cap = j then some (⟨g, 0, none⟩ : Addr) else some ⟨g, j * 4, none⟩) = some A ∧ ∀ t u, news[t]? = some u → W.drew.cell? (A.add t) = some u := by
    refine ⟨if cap = j then ⟨g, 0, none⟩ else ⟨g, j * 4, none⟩, by split <;> rfl, fun t u hu => ?_⟩
    have ht : t < news.length := by
      rcases Nat.lt_or_ge t news.length with h9 | h9
      · exact h9
      · rw [List.getElem?_eq_none h9] at hu; cases hu
    rw [hnl] at ht
    rw [if_neg (by omega), Addr.add_lit]
    show W.cell? _ = _
    rw [cell_of_row _ _ (j * 4 + t) _ _ (0, 0) hh]
    have hj2 : xs[j * 4 + t]? = some u := by rwa [hnews, List.getElem?_drop] at hu
    have h8 : cur.toList[j * 4 + t]? = some u := by rw [← hj2, ← hct, List.getElem?_take_of_lt (by omega)]
    simpa using h8
  have HAP := Lib.hid (fun ty c => by
    have := run_append_room (P := Try.prog) W.drew 24 ty 35 i0 Try.underlying24 hi0 g i cap cur (show W.drew.heap[g]? = _ from hh) A (n - j) c news hnl1 hsrc (fun u hu => h1 u (by rw [hnews] at hu; exact List.mem_of_mem_drop hu)) (by omega) (by rw [hz1, hnl, hcs]; omega)
    rw [hz1, ← hr1, ← hq] at this
    exact this)
  obtain ⟨W1, hW1⟩ : ∃ W1, W1 = W.drew.setRow g r1.toArray := ⟨_, rfl⟩
  rw [← hW1] at HAP
  have hw1 : W1.heap[g]? = some (.cells r1.toArray 35 (0, 0)) := by rw [hW1]; exact setRow_heap _ _ _ _ _ _ (show W.drew.heap[g]? = _ from hh)
  have hcl2 : ∀ ty, (Builtin.clear_ #[24] ty #[.slice (some ⟨g, q * 4, none⟩) (n - q) (cap - q)]).run Try.prog W1 = .ok (.tuple #[]) (W1.setRow g r2.toArray) := fun ty => by
    have := run_clear_one (P := Try.prog) W1 24 35 ty _ zs Try.underlying24 Try.zeroValue35 (by rw [hzs]; exact congrArg Array.toList (zero_one _ rfl)) (by rw [hzs]; intro u hu; simp at hu; rcases hu with rfl | rfl | rfl <;> rfl) g (q * 4) (cap - q) r1.toArray 35 hw1 (by rw [List.size_toArray, hr1l, hzl]; omega)
    rw [show n - q = 1 by omega, this]
    simp only [List.toList_toArray]
    rw [← hr2]
  have HFI := Lib.hid (show DelOut 35 base W g cap n xs i (.returned (.slice (some ⟨g, 0, none⟩) q cap)) (W1.setRow g r2.toArray) from by
    have e1 : n - 1 = q := by omega
    refine ⟨by rw [e1], ?_, ?_⟩
    · rw [e1]
      refine ⟨by rw [← hr2t, List.length_take, hr2l]; omega, .inr ⟨g, cap, r2.toArray, rfl, hbg, setRow_heap _ _ _ _ _ _ hw1, by omega, hcm, by rw [List.size_toArray, hr2l], ?_⟩⟩
      rw [← hr2t]
    · rw [hW1]
      refine ⟨rfl, rfl, rfl, by simp [World.setRow], fun k hk hne => ?_⟩
      have hne2 : g ≠ k := fun e => hne (by rw [e])
      simp only [World.setRow]
      rw [Array.getElem?_modify, if_neg hne2, Array.getElem?_modify, if_neg hne2]
      rfl)
  have hji : ¬ (i : Int) = (j : Int) := by omega
  have hij : i < j := by omega
  have hjn : j ≤ n := by omega
  have hjc : j ≤ cap := by omega
  have hic : i ≤ cap := by omega
  have hqn : q ≤ n := by omega
  have hqc : q ≤ cap := by omega
  have hqn2 : ¬ cap = q := by omega
  clear hcl hct hcs hh hr1 hr2 hr1l hr2l hr2t hzs hzl hnl hnl1 hnews hsrc hW1 hw1 hown hxl hj hq
  go_enter Try.func16, Try.ntmps16
  go_wp2_with fail
  go_region_law (refine step_append_runI rfl (.tmp 22) (.tmp 25) 24 24 rfl (.slice (some ⟨g, 0, none⟩) i cap) (.slice (some A) (n - j) (cap - j)) (by simp [Act.eval, Act.put]) (by simp [Act.eval, Act.put, hA]) (HAP.out _ _) ?_)
  go_wp2_with fail
  go_ret
  exact HFI.out
end Go.Proofs.Ytdkigbaodbkebaa.Nt
