/-
  Layer 18: slices.Insert of one struct into a row of the call's own.
-/
import Derived.Test.YtnmhgjoofgmcgaaGreatRlRow
namespace Go.Proofs.YtnmhgjoofgmcgaaGreat.Rl
open Go.RowKit
set_option maxRecDepth 100000
set_option linter.unusedSimpArgs false
set_option linter.unusedVariables false
/-- What Insert tells of a row. -/
def InsOut (T : TypeId) (base : Nat) (W : World) (s : Value) (n i : Nat) (xs news : List Value) (e : Ending) (w' : World) : Prop := ∃ v', e = .returned v' ∧ w'.ownsRow base T 3 v' (n + 1) (xs.take (i * 3) ++ news ++ xs.drop (i * 3)) ∧ W.grownBy w' s.ownBlock
theorem Mem_info : (Tryz.prog.info? 45).map (fun i => (i.zero, i.size, i.bytes)) = some (some (.agg #[.string ⟨#[]⟩, .int .i64 0, .int .i64 0]), 3, 32) := by kernel_rfl
theorem Cls_info : (Tryz.prog.info? 53).map (fun i => (i.zero, i.size, i.bytes)) = some (some (.agg #[.string ⟨#[]⟩, .string ⟨#[]⟩, .slice none 0 0]), 3, 56) := by kernel_rfl
set_option maxHeartbeats 8000000 in
theorem ins_Mem_end (base : Nat) (W : World) (s : Value) (n : Nat) (xs news : List Value) (vb : Nat) (hown : W.ownsRow base 45 3 s n xs) (hb : base ≤ W.heap.size) (hn : n ≤ 4096) (hv : W.heap[vb]? = some (.cells news.toArray 45 (0, 0))) (hvl : news.length = 3) (h2 : ∀ u ∈ news, u.oneCell' = true) :
    Calls Tryz.prog 56 #[s, .int .i64 n, .slice (some ⟨vb, 0, none⟩) 1 1] W (InsOut 45 base W s n n xs news) := by
  obtain ⟨i0, hi0, hz0, hz1, hz2⟩ := info_parts Mem_info
  have hxl := hown.1
  have HO := Lib.hid hown
  have hnews : ∀ j u, news[j]? = some u → W.cell? ((⟨vb, 0, none⟩ : Addr).add j) = some u := fun j u hj => by
    rw [Gn.add_row, cell_of_row _ _ j _ _ (0, 0) hv]
    simpa using hj
  have HN := Lib.hid hnews
  have HR := Lib.hid (fun v' w' (h1 : w'.ownsRow base 45 3 v' (n + 1) (xs ++ news)) (h2 : W.grownBy w' s.ownBlock) => show InsOut 45 base W s n n xs news (.returned v') w' from ⟨v', rfl, by
    rw [show xs.take (n * 3) = xs from List.take_of_length_le (by omega), show xs.drop (n * 3) = [] from List.drop_eq_nil_of_le (by omega), List.append_nil]
    exact h1, h2⟩)
  clear hnews
  rcases hown.2 with ⟨rfl, rfl⟩ | ⟨g, cap, cur, rfl, hbg, hh, hnc, hcm, hcs, hct⟩
  · go_enter Tryz.func56, Tryz.ntmps56
    go_wp2_with (at_builtin; refine wpList_append_own _ rfl (.tmp 23) (.tmp 24) 24 rfl base 45 i0 _ 3 32 Tryz.underlying24 hi0 hz0 hz1 hz2 rfl (by decide) (.slice none 0 0) 0 xs rfl HO.out ⟨vb, 0, none⟩ 1 1 news rfl (by rw [hvl]) HN.out h2 (by unfold maxLen; omega) (by omega) hb ?_; intro v' w' h3 h4 h5; have H3 := Lib.hid h3; have H4 := Lib.hid h4; clear h3 h4 h5)
    go_ret
    exact HR.out _ _ H3.out H4.out
  · unfold maxLen at hcm
    by_cases hc : n = cap
    · subst hc
      clear hh hcs hct
      go_enter Tryz.func56, Tryz.ntmps56
      go_wp2_with (at_builtin; refine wpList_append_own _ rfl (.tmp 23) (.tmp 24) 24 rfl base 45 i0 _ 3 32 Tryz.underlying24 hi0 hz0 hz1 hz2 rfl (by decide) (.slice (some ⟨g, 0, none⟩) n n) n xs rfl HO.out ⟨vb, 0, none⟩ 1 1 news rfl (by rw [hvl]) HN.out h2 (by unfold maxLen; omega) (by omega) hb ?_; intro v' w' h3 h4 h5; have H3 := Lib.hid h3; have H4 := Lib.hid h4; clear h3 h4 h5)
      go_ret
      exact HR.out _ _ H3.out H4.out
    · have hc2 : ¬ cap = n := fun e => hc e.symm
      clear hh hcs hct
      go_enter Tryz.func56, Tryz.ntmps56
      go_wp2_with (at_builtin; refine wpList_append_own _ rfl (.tmp 23) (.tmp 24) 24 rfl base 45 i0 _ 3 32 Tryz.underlying24 hi0 hz0 hz1 hz2 rfl (by decide) (.slice (some ⟨g, 0, none⟩) n cap) n xs rfl HO.out ⟨vb, 0, none⟩ 1 1 news rfl (by rw [hvl]) HN.out h2 (by unfold maxLen; omega) (by omega) hb ?_; intro v' w' h3 h4 h5; have H3 := Lib.hid h3; have H4 := Lib.hid h4; clear h3 h4 h5)
      go_ret
      exact HR.out _ _ H3.out H4.out
set_option maxHeartbeats 8000000 in
theorem ins_Cls_end (base : Nat) (W : World) (s : Value) (n : Nat) (xs news : List Value) (vb : Nat) (hown : W.ownsRow base 53 3 s n xs) (hb : base ≤ W.heap.size) (hn : n ≤ 4096) (hv : W.heap[vb]? = some (.cells news.toArray 53 (0, 0))) (hvl : news.length = 3) (h2 : ∀ u ∈ news, u.oneCell' = true) :
    Calls Tryz.prog 57 #[s, .int .i64 n, .slice (some ⟨vb, 0, none⟩) 1 1] W (InsOut 53 base W s n n xs news) := by
  obtain ⟨i0, hi0, hz0, hz1, hz2⟩ := info_parts Cls_info
  have hxl := hown.1
  have HO := Lib.hid hown
  have hnews : ∀ j u, news[j]? = some u → W.cell? ((⟨vb, 0, none⟩ : Addr).add j) = some u := fun j u hj => by
    rw [Gn.add_row, cell_of_row _ _ j _ _ (0, 0) hv]
    simpa using hj
  have HN := Lib.hid hnews
  have HR := Lib.hid (fun v' w' (h1 : w'.ownsRow base 53 3 v' (n + 1) (xs ++ news)) (h2 : W.grownBy w' s.ownBlock) => show InsOut 53 base W s n n xs news (.returned v') w' from ⟨v', rfl, by
    rw [show xs.take (n * 3) = xs from List.take_of_length_le (by omega), show xs.drop (n * 3) = [] from List.drop_eq_nil_of_le (by omega), List.append_nil]
    exact h1, h2⟩)
  clear hnews
  rcases hown.2 with ⟨rfl, rfl⟩ | ⟨g, cap, cur, rfl, hbg, hh, hnc, hcm, hcs, hct⟩
  · go_enter Tryz.func57, Tryz.ntmps57
    go_wp2_with (at_builtin; refine wpList_append_own _ rfl (.tmp 23) (.tmp 24) 25 rfl base 53 i0 _ 3 56 Tryz.underlying25 hi0 hz0 hz1 hz2 rfl (by decide) (.slice none 0 0) 0 xs rfl HO.out ⟨vb, 0, none⟩ 1 1 news rfl (by rw [hvl]) HN.out h2 (by unfold maxLen; omega) (by omega) hb ?_; intro v' w' h3 h4 h5; have H3 := Lib.hid h3; have H4 := Lib.hid h4; clear h3 h4 h5)
    go_ret
    exact HR.out _ _ H3.out H4.out
  · unfold maxLen at hcm
    by_cases hc : n = cap
    · subst hc
      clear hh hcs hct
      go_enter Tryz.func57, Tryz.ntmps57
      go_wp2_with (at_builtin; refine wpList_append_own _ rfl (.tmp 23) (.tmp 24) 25 rfl base 53 i0 _ 3 56 Tryz.underlying25 hi0 hz0 hz1 hz2 rfl (by decide) (.slice (some ⟨g, 0, none⟩) n n) n xs rfl HO.out ⟨vb, 0, none⟩ 1 1 news rfl (by rw [hvl]) HN.out h2 (by unfold maxLen; omega) (by omega) hb ?_; intro v' w' h3 h4 h5; have H3 := Lib.hid h3; have H4 := Lib.hid h4; clear h3 h4 h5)
      go_ret
      exact HR.out _ _ H3.out H4.out
    · have hc2 : ¬ cap = n := fun e => hc e.symm
      clear hh hcs hct
      go_enter Tryz.func57, Tryz.ntmps57
      go_wp2_with (at_builtin; refine wpList_append_own _ rfl (.tmp 23) (.tmp 24) 25 rfl base 53 i0 _ 3 56 Tryz.underlying25 hi0 hz0 hz1 hz2 rfl (by decide) (.slice (some ⟨g, 0, none⟩) n cap) n xs rfl HO.out ⟨vb, 0, none⟩ 1 1 news rfl (by rw [hvl]) HN.out h2 (by unfold maxLen; omega) (by omega) hb ?_; intro v' w' h3 h4 h5; have H3 := Lib.hid h3; have H4 := Lib.hid h4; clear h3 h4 h5)
      go_ret
      exact HR.out _ _ H3.out H4.out
theorem rowk_splice (cur xs news : List Value) (n i cap : Nat) (hi : i < n) (hl : xs.length = n * 3) (hv : news.length = 3) (hc : (n + 1) * 3 ≤ cur.length) (hp : cur.take (i * 3) = xs.take (i * 3)) :
    let r1 := cur.take ((i + 1) * 3) ++ xs.drop (i * 3) ++ cur.drop ((i + 1) * 3 + (xs.drop (i * 3)).length)
    let r2 := r1.take (i * 3) ++ news ++ r1.drop (i * 3 + news.length)
    r2.length = cur.length ∧ r2.take ((n + 1) * 3) = xs.take (i * 3) ++ news ++ xs.drop (i * 3) := by
  intro r1 r2
  have hd : (xs.drop (i * 3)).length = (n - i) * 3 := by rw [List.length_drop, hl, Nat.sub_mul]
  have e1 : r1.take (i * 3) = xs.take (i * 3) := by
    show (cur.take ((i + 1) * 3) ++ xs.drop (i * 3) ++ _).take (i * 3) = _
    rw [List.append_assoc, List.take_append_of_le_length (by rw [List.length_take]; omega), List.take_take, Nat.min_eq_left (by omega), hp]
  have e2 : r1.drop (i * 3 + news.length) = xs.drop (i * 3) ++ cur.drop ((i + 1) * 3 + (xs.drop (i * 3)).length) := by
    show (cur.take ((i + 1) * 3) ++ xs.drop (i * 3) ++ _).drop (i * 3 + news.length) = _
    have h9 : (cur.take ((i + 1) * 3)).length = i * 3 + news.length := by rw [List.length_take, hv]; omega
    rw [List.append_assoc, ← h9, List.drop_left]
  have e3 : r2 = xs.take (i * 3) ++ news ++ xs.drop (i * 3) ++ cur.drop ((i + 1) * 3 + (xs.drop (i * 3)).length) := by
    show r1.take (i * 3) ++ news ++ r1.drop (i * 3 + news.length) = _
    rw [e1, e2, ← List.append_assoc]
  have h8 : (xs.take (i * 3) ++ news ++ xs.drop (i * 3)).length = (n + 1) * 3 := by
    rw [List.length_append, List.length_append, List.length_take, hd, hv]; omega
  rw [e3]
  constructor
  · rw [List.length_append, h8, List.length_drop, hd]; omega
  · rw [← h8, List.take_left]
theorem off_mul (i : Nat) : 0 + (i + 1) * 3 = (i + 1) * 3 := by omega
set_option maxHeartbeats 8000000 in
theorem ins_Mem_in (base : Nat) (W : World) (g cap n i : Nat) (xs news : List Value) (vb : Nat) (hown : W.ownsRow base 45 3 (.slice (some ⟨g, 0, none⟩) n cap) n xs) (hb : base ≤ W.heap.size) (hn : n ≤ 4096) (hi : i < n) (hcap : n + 1 ≤ cap) (hv : W.heap[vb]? = some (.cells news.toArray 45 (0, 0))) (hvl : news.length = 3) (hne : vb ≠ g) (h1 : ∀ u ∈ xs, u.oneCell' = true) (h2 : ∀ u ∈ news, u.oneCell' = true) :
    Calls Tryz.prog 56 #[.slice (some ⟨g, 0, none⟩) n cap, .int .i64 i, .slice (some ⟨vb, 0, none⟩) 1 1] W (InsOut 45 base W (.slice (some ⟨g, 0, none⟩) n cap) n i xs news) := by
  obtain ⟨i0, hi0, hz0, hz1, hz2⟩ := info_parts Mem_info
  have hsz : (Tryz.prog.info? 45).map (·.size) = some 3 := by rw [hi0]; simp [hz1]
  have hxl := hown.1
  rcases hown.2 with ⟨h0, _⟩ | ⟨g', cap', cur, h0, hbg, hh, hnc, hcm, hcs, hct⟩
  · cases h0
  injection h0 with h0 _ h0c
  injection h0 with h0
  injection h0 with h0
  subst h0
  subst h0c
  have hcm2 : cap ≤ 9223372036854775807 := hcm
  have hov : ∀ lb cb, (callFunc 94 #[.slice (some ⟨vb, 0, none⟩) 1 1, .slice (some ⟨g, (i + 1) * 3, none⟩) lb cb]).run Tryz.prog W = .ok (.value (.bool false)) W := fun lb cb => by
    rw [run_callFunc_extern Tryz.func94 (by kernel_rfl) (by kernel_rfl) (by kernel_rfl) (e := Extern.SlicesOverlaps.overlaps #[24, 24] #[4]) (by kernel_rfl),
      Lib.run_overlaps_apart W 24 4 45 Tryz.underlying24 3 Tryz.sizeOf45 ⟨vb, 0, none⟩ ⟨g, (i + 1) * 3, none⟩ 1 1 lb cb hne 45 45 news.toArray.size cur.size (by simp [World.shape?, hv]) (by simp [World.shape?, hh]) (by rw [hcs]; omega) (by simp [World.frozen?, hv]) (by simp [World.frozen?, hv])]
    rfl
  have hcl : cur.toList.length = cap * 3 := by rw [Array.length_toList]; exact hcs
  have hdl : (xs.drop (i * 3)).length = (n - i) * 3 := by rw [List.length_drop, hxl, Nat.sub_mul]
  have hpx : cur.toList.take (i * 3) = xs.take (i * 3) := by rw [← hct, List.take_take, Nat.min_eq_left (by omega)]
  have hspl := rowk_splice cur.toList xs news n i cap hi hxl hvl (by rw [hcl]; omega) hpx
  obtain ⟨r1, hr1⟩ : ∃ r1, r1 = cur.toList.take ((i + 1) * 3) ++ xs.drop (i * 3) ++ cur.toList.drop ((i + 1) * 3 + (xs.drop (i * 3)).length) := ⟨_, rfl⟩
  simp only [← hr1] at hspl
  obtain ⟨r2, hr2⟩ : ∃ r2, r2 = r1.take (i * 3) ++ news ++ r1.drop (i * 3 + news.length) := ⟨_, rfl⟩
  simp only [← hr2] at hspl
  have hr1l : r1.length = cap * 3 := by rw [hr1, List.length_append, List.length_append, hdl, List.length_take, List.length_drop, hcl]; omega
  have hcopy1 : ∀ ty dl dc sl sc, dl = n - i → sl = n + 1 - i → (Builtin.copy_ #[24, 24] ty #[.slice (some ⟨g, (i + 1) * 3, none⟩) dl dc, .slice (some ⟨g, i * 3, none⟩) sl sc]).run Tryz.prog W.drew = .ok (goInt (n - i : Nat)) (W.drew.setRow g r1.toArray) := fun ty dl dc sl sc hdl9 hsl9 => by
    have := run_copy_k (P := Tryz.prog) W.drew 24 24 ty 45 3 g ((i + 1) * 3) dl dc ⟨g, i * 3, none⟩ sl sc (n - i) cur 45 (xs.drop (i * 3)) Tryz.underlying24 hsz hh (by simp only [Nat.min_def]; split <;> omega) hdl (fun j v hj => by
      have hj2 : xs[i * 3 + j]? = some v := by rwa [List.getElem?_drop] at hj
      have hlt : i * 3 + j < n * 3 := by
        rcases Nat.lt_or_ge (i * 3 + j) xs.length with h9 | h9
        · omega
        · rw [List.getElem?_eq_none h9] at hj2; cases hj2
      have e : (⟨g, i * 3, none⟩ : Addr).add j = ⟨g, i * 3 + j, none⟩ := by unfold Addr.add; split <;> simp_all
      rw [e]
      show W.cell? _ = _
      rw [cell_of_row _ _ (i * 3 + j) _ _ (0, 0) hh]
      have h8 : cur.toList[i * 3 + j]? = some v := by rw [← hj2, ← hct, List.getElem?_take_of_lt hlt]
      simpa using h8) (by rw [hdl]; omega) (fun v hv => h1 v (List.mem_of_mem_drop hv))
    rw [← hr1] at this
    exact this
  have hg1 : ∀ w : World, w.heap[g]? = (W.drew.setRow g r1.toArray).heap[g]? → w.heap[vb]? = W.heap[vb]? → ∀ ty dl dc, dl = n + 1 - i → (Builtin.copy_ #[24, 24] ty #[.slice (some ⟨g, i * 3, none⟩) dl dc, .slice (some ⟨vb, 0, none⟩) 1 1]).run Tryz.prog w = .ok (goInt (1 : Nat)) (w.setRow g r2.toArray) := fun w e1 e2 ty dl dc hdl9 => by
    have hw1 : w.heap[g]? = some (.cells r1.toArray 45 (0, 0)) := e1.trans (setRow_heap _ _ _ _ _ _ (show W.drew.heap[g]? = _ from hh))
    have := run_copy_k (P := Tryz.prog) w 24 24 ty 45 3 g (i * 3) dl dc ⟨vb, 0, none⟩ 1 1 1 r1.toArray 45 news Tryz.underlying24 hsz hw1 (by simp only [Nat.min_def]; split <;> omega) (by rw [hvl]) (fun j v hj => by
      rw [Gn.add_row, cell_of_row _ _ j _ _ (0, 0) (e2.trans hv)]
      simpa using hj) (by rw [hvl]; simp [hr1l]; omega) h2
    simp only [List.toList_toArray] at this
    rw [← hr2] at this
    exact this
  have hfin : ∀ w : World, w.heap[g]? = some (.cells r2.toArray 45 (0, 0)) → W.grownBy w (some g) → InsOut 45 base W (.slice (some ⟨g, 0, none⟩) n cap) n i xs news (.returned (.slice (some ⟨g, 0, none⟩) (n + 1) cap)) w := fun w e1 e2 => ⟨_, rfl, ⟨by rw [List.length_append, List.length_append, List.length_take, hdl, hvl]; omega, .inr ⟨g, cap, r2.toArray, rfl, hbg, e1, hcap, hcm, by rw [List.size_toArray, hspl.1, hcl], hspl.2⟩⟩, e2⟩
  have hgd : ∀ (w : World) (r : Array Value), W.grownBy w (some g) → W.grownBy (w.setRow g r) (some g) := fun w r h => ⟨h.os, h.tape, h.output, by simpa [World.setRow] using h.size, fun k hk hne => by
    rw [← h.block k hk hne]
    simp only [World.setRow]
    rw [Array.getElem?_modify, if_neg (fun e => hne (by rw [e]))]⟩
  have hgW : W.grownBy W.drew (some g) := ⟨rfl, rfl, rfl, Nat.le_refl _, fun k _ _ => rfl⟩
  obtain ⟨W1, hW1⟩ : ∃ W1, W1 = W.drew.setRow g r1.toArray := ⟨_, rfl⟩
  have hvb1 : W1.heap[vb]? = W.heap[vb]? := (by rw [hW1]; exact hgd _ _ hgW : W.grownBy W1 (some g)).block vb (Gn.heap_lt hv) (fun e => by injection e with e; exact hne e)
  rw [← hW1] at hcopy1 hg1
  have hgw1 : W.grownBy W1 (some g) := by rw [hW1]; exact hgd _ _ hgW
  have HC2 := Lib.hid (hg1 W1 rfl hvb1)
  have HFI := Lib.hid (hfin (W1.setRow g r2.toArray) (setRow_heap _ _ _ _ _ (0, 0) (by rw [hW1]; exact setRow_heap _ _ _ _ _ _ (show W.drew.heap[g]? = _ from hh))) (hgd _ _ hgw1))
  have HC1 := Lib.hid hcopy1
  have HOV := Lib.hid hov
  have e1 : ¬ (i : Int) = (n : Int) := by omega
  have e2 : ¬ (cap : Int) < (n : Int) + 1 := by omega
  have e3 : IntKind.i64.wrap ((n : Int) + 1) = ((n + 1 : Nat) : Int) := IntWalk.i64_in _ (by omega)
  have e4 : IntKind.i64.wrap ((i : Int) + 1) = ((i + 1 : Nat) : Int) := IntWalk.i64_in _ (by omega)
  have e5 : ¬ cap = i + 1 := by omega
  have e6 : ¬ cap = i := by omega
  have e7 : i ≤ n := by omega
  have e8 : i + 1 ≤ n + 1 := by omega
  have e9 : (0 : Int) ≤ (i : Int) + 1 := by omega
  have e10 : (0 : Int) ≤ (n : Int) + 1 := by omega
  have e11 : (i : Int) ≤ (n : Int) + 1 := by omega
  have hov2 := hov
  clear hcopy1 hg1 hfin hgd hgW hgw1 hvb1 hspl hr1 hr2 hr1l hpx hdl hcl hov hct hcs hh hW1 hxl hown
  go_enter Tryz.func56, Tryz.ntmps56
  go_wp2_with (simp only [hov2])
  go_region_law (refine step_copy_runI rfl _ _ 24 24 rfl (.slice (some ⟨g, (i + 1) * 3, none⟩) (n - i) (cap - (i + 1))) (.slice (some ⟨g, i * 3, none⟩) (n + 1 - i) (cap - i)) (by simp [Act.eval, Act.put]) (by simp [Act.eval, Act.put]) (HC1.out 3 (n - i) (cap - (i + 1)) (n + 1 - i) (cap - i) rfl rfl) ?_)
  have hc2 := HC2.out 3 (n + 1 - i) (cap - i) rfl
  go_wp2_with fail
  go_ret
  exact HFI.out
set_option maxHeartbeats 8000000 in
theorem ins_Cls_in (base : Nat) (W : World) (g cap n i : Nat) (xs news : List Value) (vb : Nat) (hown : W.ownsRow base 53 3 (.slice (some ⟨g, 0, none⟩) n cap) n xs) (hb : base ≤ W.heap.size) (hn : n ≤ 4096) (hi : i < n) (hcap : n + 1 ≤ cap) (hv : W.heap[vb]? = some (.cells news.toArray 53 (0, 0))) (hvl : news.length = 3) (hne : vb ≠ g) (h1 : ∀ u ∈ xs, u.oneCell' = true) (h2 : ∀ u ∈ news, u.oneCell' = true) :
    Calls Tryz.prog 57 #[.slice (some ⟨g, 0, none⟩) n cap, .int .i64 i, .slice (some ⟨vb, 0, none⟩) 1 1] W (InsOut 53 base W (.slice (some ⟨g, 0, none⟩) n cap) n i xs news) := by
  obtain ⟨i0, hi0, hz0, hz1, hz2⟩ := info_parts Cls_info
  have hsz : (Tryz.prog.info? 53).map (·.size) = some 3 := by rw [hi0]; simp [hz1]
  have hxl := hown.1
  rcases hown.2 with ⟨h0, _⟩ | ⟨g', cap', cur, h0, hbg, hh, hnc, hcm, hcs, hct⟩
  · cases h0
  injection h0 with h0 _ h0c
  injection h0 with h0
  injection h0 with h0
  subst h0
  subst h0c
  have hcm2 : cap ≤ 9223372036854775807 := hcm
  have hov : ∀ lb cb, (callFunc 96 #[.slice (some ⟨vb, 0, none⟩) 1 1, .slice (some ⟨g, (i + 1) * 3, none⟩) lb cb]).run Tryz.prog W = .ok (.value (.bool false)) W := fun lb cb => by
    rw [run_callFunc_extern Tryz.func96 (by kernel_rfl) (by kernel_rfl) (by kernel_rfl) (e := Extern.SlicesOverlaps.overlaps #[25, 25] #[4]) (by kernel_rfl),
      Lib.run_overlaps_apart W 25 4 53 Tryz.underlying25 3 Tryz.sizeOf53 ⟨vb, 0, none⟩ ⟨g, (i + 1) * 3, none⟩ 1 1 lb cb hne 53 53 news.toArray.size cur.size (by simp [World.shape?, hv]) (by simp [World.shape?, hh]) (by rw [hcs]; omega) (by simp [World.frozen?, hv]) (by simp [World.frozen?, hv])]
    rfl
  have hcl : cur.toList.length = cap * 3 := by rw [Array.length_toList]; exact hcs
  have hdl : (xs.drop (i * 3)).length = (n - i) * 3 := by rw [List.length_drop, hxl, Nat.sub_mul]
  have hpx : cur.toList.take (i * 3) = xs.take (i * 3) := by rw [← hct, List.take_take, Nat.min_eq_left (by omega)]
  have hspl := rowk_splice cur.toList xs news n i cap hi hxl hvl (by rw [hcl]; omega) hpx
  obtain ⟨r1, hr1⟩ : ∃ r1, r1 = cur.toList.take ((i + 1) * 3) ++ xs.drop (i * 3) ++ cur.toList.drop ((i + 1) * 3 + (xs.drop (i * 3)).length) := ⟨_, rfl⟩
  simp only [← hr1] at hspl
  obtain ⟨r2, hr2⟩ : ∃ r2, r2 = r1.take (i * 3) ++ news ++ r1.drop (i * 3 + news.length) := ⟨_, rfl⟩
  simp only [← hr2] at hspl
  have hr1l : r1.length = cap * 3 := by rw [hr1, List.length_append, List.length_append, hdl, List.length_take, List.length_drop, hcl]; omega
  have hcopy1 : ∀ ty dl dc sl sc, dl = n - i → sl = n + 1 - i → (Builtin.copy_ #[25, 25] ty #[.slice (some ⟨g, (i + 1) * 3, none⟩) dl dc, .slice (some ⟨g, i * 3, none⟩) sl sc]).run Tryz.prog W.drew = .ok (goInt (n - i : Nat)) (W.drew.setRow g r1.toArray) := fun ty dl dc sl sc hdl9 hsl9 => by
    have := run_copy_k (P := Tryz.prog) W.drew 25 25 ty 53 3 g ((i + 1) * 3) dl dc ⟨g, i * 3, none⟩ sl sc (n - i) cur 53 (xs.drop (i * 3)) Tryz.underlying25 hsz hh (by simp only [Nat.min_def]; split <;> omega) hdl (fun j v hj => by
      have hj2 : xs[i * 3 + j]? = some v := by rwa [List.getElem?_drop] at hj
      have hlt : i * 3 + j < n * 3 := by
        rcases Nat.lt_or_ge (i * 3 + j) xs.length with h9 | h9
        · omega
        · rw [List.getElem?_eq_none h9] at hj2; cases hj2
      have e : (⟨g, i * 3, none⟩ : Addr).add j = ⟨g, i * 3 + j, none⟩ := by unfold Addr.add; split <;> simp_all
      rw [e]
      show W.cell? _ = _
      rw [cell_of_row _ _ (i * 3 + j) _ _ (0, 0) hh]
      have h8 : cur.toList[i * 3 + j]? = some v := by rw [← hj2, ← hct, List.getElem?_take_of_lt hlt]
      simpa using h8) (by rw [hdl]; omega) (fun v hv => h1 v (List.mem_of_mem_drop hv))
    rw [← hr1] at this
    exact this
  have hg1 : ∀ w : World, w.heap[g]? = (W.drew.setRow g r1.toArray).heap[g]? → w.heap[vb]? = W.heap[vb]? → ∀ ty dl dc, dl = n + 1 - i → (Builtin.copy_ #[25, 25] ty #[.slice (some ⟨g, i * 3, none⟩) dl dc, .slice (some ⟨vb, 0, none⟩) 1 1]).run Tryz.prog w = .ok (goInt (1 : Nat)) (w.setRow g r2.toArray) := fun w e1 e2 ty dl dc hdl9 => by
    have hw1 : w.heap[g]? = some (.cells r1.toArray 53 (0, 0)) := e1.trans (setRow_heap _ _ _ _ _ _ (show W.drew.heap[g]? = _ from hh))
    have := run_copy_k (P := Tryz.prog) w 25 25 ty 53 3 g (i * 3) dl dc ⟨vb, 0, none⟩ 1 1 1 r1.toArray 53 news Tryz.underlying25 hsz hw1 (by simp only [Nat.min_def]; split <;> omega) (by rw [hvl]) (fun j v hj => by
      rw [Gn.add_row, cell_of_row _ _ j _ _ (0, 0) (e2.trans hv)]
      simpa using hj) (by rw [hvl]; simp [hr1l]; omega) h2
    simp only [List.toList_toArray] at this
    rw [← hr2] at this
    exact this
  have hfin : ∀ w : World, w.heap[g]? = some (.cells r2.toArray 53 (0, 0)) → W.grownBy w (some g) → InsOut 53 base W (.slice (some ⟨g, 0, none⟩) n cap) n i xs news (.returned (.slice (some ⟨g, 0, none⟩) (n + 1) cap)) w := fun w e1 e2 => ⟨_, rfl, ⟨by rw [List.length_append, List.length_append, List.length_take, hdl, hvl]; omega, .inr ⟨g, cap, r2.toArray, rfl, hbg, e1, hcap, hcm, by rw [List.size_toArray, hspl.1, hcl], hspl.2⟩⟩, e2⟩
  have hgd : ∀ (w : World) (r : Array Value), W.grownBy w (some g) → W.grownBy (w.setRow g r) (some g) := fun w r h => ⟨h.os, h.tape, h.output, by simpa [World.setRow] using h.size, fun k hk hne => by
    rw [← h.block k hk hne]
    simp only [World.setRow]
    rw [Array.getElem?_modify, if_neg (fun e => hne (by rw [e]))]⟩
  have hgW : W.grownBy W.drew (some g) := ⟨rfl, rfl, rfl, Nat.le_refl _, fun k _ _ => rfl⟩
  obtain ⟨W1, hW1⟩ : ∃ W1, W1 = W.drew.setRow g r1.toArray := ⟨_, rfl⟩
  have hvb1 : W1.heap[vb]? = W.heap[vb]? := (by rw [hW1]; exact hgd _ _ hgW : W.grownBy W1 (some g)).block vb (Gn.heap_lt hv) (fun e => by injection e with e; exact hne e)
  rw [← hW1] at hcopy1 hg1
  have hgw1 : W.grownBy W1 (some g) := by rw [hW1]; exact hgd _ _ hgW
  have HC2 := Lib.hid (hg1 W1 rfl hvb1)
  have HFI := Lib.hid (hfin (W1.setRow g r2.toArray) (setRow_heap _ _ _ _ _ (0, 0) (by rw [hW1]; exact setRow_heap _ _ _ _ _ _ (show W.drew.heap[g]? = _ from hh))) (hgd _ _ hgw1))
  have HC1 := Lib.hid hcopy1
  have HOV := Lib.hid hov
  have e1 : ¬ (i : Int) = (n : Int) := by omega
  have e2 : ¬ (cap : Int) < (n : Int) + 1 := by omega
  have e3 : IntKind.i64.wrap ((n : Int) + 1) = ((n + 1 : Nat) : Int) := IntWalk.i64_in _ (by omega)
  have e4 : IntKind.i64.wrap ((i : Int) + 1) = ((i + 1 : Nat) : Int) := IntWalk.i64_in _ (by omega)
  have e5 : ¬ cap = i + 1 := by omega
  have e6 : ¬ cap = i := by omega
  have e7 : i ≤ n := by omega
  have e8 : i + 1 ≤ n + 1 := by omega
  have e9 : (0 : Int) ≤ (i : Int) + 1 := by omega
  have e10 : (0 : Int) ≤ (n : Int) + 1 := by omega
  have e11 : (i : Int) ≤ (n : Int) + 1 := by omega
  have hov2 := hov
  clear hcopy1 hg1 hfin hgd hgW hgw1 hvb1 hspl hr1 hr2 hr1l hpx hdl hcl hov hct hcs hh hW1 hxl hown
  go_enter Tryz.func57, Tryz.ntmps57
  go_wp2_with (simp only [hov2])
  go_region_law (refine step_copy_runI rfl _ _ 25 25 rfl (.slice (some ⟨g, (i + 1) * 3, none⟩) (n - i) (cap - (i + 1))) (.slice (some ⟨g, i * 3, none⟩) (n + 1 - i) (cap - i)) (by simp [Act.eval, Act.put]) (by simp [Act.eval, Act.put]) (HC1.out 3 (n - i) (cap - (i + 1)) (n + 1 - i) (cap - i) rfl rfl) ?_)
  have hc2 := HC2.out 3 (n + 1 - i) (cap - i) rfl
  go_wp2_with fail
  go_ret
  exact HFI.out
theorem rowk_grow (row xs news : List Value) (n i cap : Nat) (hi : i < n) (hl : xs.length = n * 3) (hv : news.length = 3) (hc : (n + 1) * 3 ≤ row.length) (hp : row.take (i * 3) = xs.take (i * 3)) :
    let r1 := row.take (i * 3) ++ news ++ row.drop (i * 3 + news.length)
    let r2 := r1.take ((i + 1) * 3) ++ xs.drop (i * 3) ++ r1.drop ((i + 1) * 3 + (xs.drop (i * 3)).length)
    r2.length = row.length ∧ r2.take ((n + 1) * 3) = xs.take (i * 3) ++ news ++ xs.drop (i * 3) := by
  intro r1 r2
  have hd : (xs.drop (i * 3)).length = (n - i) * 3 := by rw [List.length_drop, hl, Nat.sub_mul]
  have h9 : (row.take (i * 3) ++ news).length = (i + 1) * 3 := by rw [List.length_append, List.length_take, hv]; omega
  have e1 : r1.take ((i + 1) * 3) = xs.take (i * 3) ++ news := by
    show (row.take (i * 3) ++ news ++ _).take ((i + 1) * 3) = _
    rw [← h9, List.take_left, hp]
  have hr1 : r1.length = row.length := by
    show (row.take (i * 3) ++ news ++ row.drop (i * 3 + news.length)).length = _
    rw [List.length_append, h9, List.length_drop, hv]; omega
  have h8 : (xs.take (i * 3) ++ news ++ xs.drop (i * 3)).length = (n + 1) * 3 := by
    rw [List.length_append, List.length_append, List.length_take, hd, hv]; omega
  have e3 : r2 = xs.take (i * 3) ++ news ++ xs.drop (i * 3) ++ r1.drop ((i + 1) * 3 + (xs.drop (i * 3)).length) := by
    show r1.take ((i + 1) * 3) ++ xs.drop (i * 3) ++ _ = _
    rw [e1]
  rw [e3]
  constructor
  · rw [List.length_append, h8, List.length_drop, hd, hr1]; omega
  · rw [← h8, List.take_left]
set_option maxHeartbeats 8000000 in
theorem ins_Mem_gr (base : Nat) (W : World) (g cap n i : Nat) (xs news : List Value) (vb : Nat) (hown : W.ownsRow base 45 3 (.slice (some ⟨g, 0, none⟩) n cap) n xs) (hb : base ≤ W.heap.size) (hn : n ≤ 4096) (hi : i < n) (hcap : cap < n + 1) (hv : W.heap[vb]? = some (.cells news.toArray 45 (0, 0))) (hvl : news.length = 3) (h1 : ∀ u ∈ xs, u.oneCell' = true) (h2 : ∀ u ∈ news, u.oneCell' = true) :
    Calls Tryz.prog 56 #[.slice (some ⟨g, 0, none⟩) n cap, .int .i64 i, .slice (some ⟨vb, 0, none⟩) 1 1] W (InsOut 45 base W (.slice (some ⟨g, 0, none⟩) n cap) n i xs news) := by
  obtain ⟨i0, hi0, hz0, hz1, hz2⟩ := info_parts Mem_info
  have hsz : (Tryz.prog.info? 45).map (·.size) = some 3 := by rw [hi0]; simp [hz1]
  have hxl := hown.1
  rcases hown.2 with ⟨h0, _⟩ | ⟨g', cap', cur, h0, hbg, hh, hnc, hcm, hcs, hct⟩
  · cases h0
  injection h0 with h0 _ h0c
  injection h0 with h0
  injection h0 with h0
  subst h0
  subst h0c
  have hce : cap = n := by omega
  subst hce
  have hcl : cur.toList.length = cap * 3 := by rw [Array.length_toList]; exact hcs
  have hdl : (xs.drop (i * 3)).length = (cap - i) * 3 := by rw [List.length_drop, hxl, Nat.sub_mul]
  have hpx : cur.toList.take (i * 3) = xs.take (i * 3) := by rw [← hct, List.take_take, Nat.min_eq_left (by omega)]
  have hcx : cur.toList = xs := by rw [← hct, List.take_of_length_le (by omega)]
  have hold : (Builtin.firstCells i0.size i (.slice (some ⟨g, 0, none⟩) i cap)).run Tryz.prog W.drew = .ok (xs.take (i * 3)).toArray W.drew := by
    rw [hz1]
    exact run_firstCells_some W.drew 3 i ⟨g, 0, none⟩ i cap (xs.take (i * 3)) (by rw [List.length_take]; omega) (fun j v hj => by
      rw [Gn.add_row]
      show W.cell? _ = _
      rw [cell_of_row _ _ j _ _ (0, 0) hh]
      have hlt : j < i * 3 := by
        rcases Nat.lt_or_ge j (i * 3) with h9 | h9
        · exact h9
        · rw [List.getElem?_eq_none (by rw [List.length_take]; omega)] at hj; cases hj
      rw [List.getElem?_take_of_lt hlt, ← hcx] at hj
      simpa using hj)
  obtain ⟨G, hG⟩ : ∃ G, G = grownCap W (cap + 1) cap 45 := ⟨_, rfl⟩
  have hGn : cap + 1 ≤ G := by rw [hG]; exact grownCap_ge W _ _ _
  have hGm : G ≤ maxLen := by rw [hG]; exact grownCap_le_maxLen W (cap + 1) cap 45 (by unfold maxLen; omega)
  have hik : i + (cap + 1 - i) = cap + 1 := by omega
  obtain ⟨row, hrow⟩ : ∃ row : Array Value, row = (xs.take (i * 3)).toArray ++ Builtin.zeroCells (.agg #[.string ⟨#[]⟩, .int .i64 0, .int .i64 0] : Value).cells (cap + 1 - i) ++ Builtin.zeroCells (.agg #[.string ⟨#[]⟩, .int .i64 0, .int .i64 0] : Value).cells (G - (cap + 1)) := ⟨_, rfl⟩
  have hz3 : (.agg #[.string ⟨#[]⟩, .int .i64 0, .int .i64 0] : Value).cells.size = 3 := rfl
  have hrs : row.size = G * 3 := by
    rw [hrow]
    simp only [Array.size_append, List.size_toArray, List.length_take, Builtin.zeroCells, Array.size_map, Array.size_range, hz3]
    omega
  have hrp : row.toList.take (i * 3) = xs.take (i * 3) := by
    rw [hrow]
    simp only [Array.toList_append]
    rw [List.append_assoc, List.take_append_of_le_length (by simp [List.length_take]; omega)]
    exact List.take_of_length_le (by simp [List.length_take]; omega)
  have hap : ∀ ty q, q = ((cap + 1 - i : Nat) : Int) → (Builtin.append_ #[24, 3] ty #[.slice (some ⟨g, 0, none⟩) i cap, .int .i64 q]).run Tryz.prog W = .ok (.slice (some ⟨W.heap.size, 0, none⟩) (cap + 1) G) (W.drew.alloc (.cells row 45)) := fun ty q hq => by
    have h := Lib.run_append_grow_zeros W 24 3 ty 45 i0 _ .i64 .i64 Tryz.underlying24 Tryz.underlying3 hi0 hz0 (some ⟨g, 0, none⟩) i cap (xs.take (i * 3)) hold (cap + 1 - i) (by omega) (by rw [hz1]; decide) (by omega) (by omega) (by rw [hz2]; omega) (by rw [hz2, hik]; exact growslice_fits (by omega) (by omega))
    rw [hik, ← hG, ← hrow] at h
    rw [hq]
    exact h
  have hspl := rowk_grow row.toList xs news cap i cap hi hxl hvl (by rw [Array.length_toList, hrs]; omega) hrp
  obtain ⟨r1, hr1⟩ : ∃ r1, r1 = row.toList.take (i * 3) ++ news ++ row.toList.drop (i * 3 + news.length) := ⟨_, rfl⟩
  simp only [← hr1] at hspl
  obtain ⟨r2, hr2⟩ : ∃ r2, r2 = r1.take ((i + 1) * 3) ++ xs.drop (i * 3) ++ r1.drop ((i + 1) * 3 + (xs.drop (i * 3)).length) := ⟨_, rfl⟩
  simp only [← hr2] at hspl
  have hr1l : r1.length = G * 3 := by rw [hr1, List.length_append, List.length_append, List.length_take, List.length_drop, hvl, Array.length_toList, hrs]; omega
  obtain ⟨b, hbb⟩ : ∃ b, b = W.heap.size := ⟨_, rfl⟩
  obtain ⟨W1, hW1⟩ : ∃ W1, W1 = W.drew.alloc (.cells row 45) := ⟨_, rfl⟩
  have hb1 : W1.heap[b]? = some (.cells row 45 (0, 0)) := by rw [hW1, hbb]; exact heap_alloc_new W.drew _
  have hgw1 : W.grownBy W1 none := by rw [hW1]; exact ⟨rfl, rfl, rfl, by simp, fun k hk _ => heap_alloc_old W.drew _ hk⟩
  have hvb1 : W1.heap[vb]? = W.heap[vb]? := hgw1.block vb (Gn.heap_lt hv) (by simp)
  have hg1 : W1.heap[g]? = W.heap[g]? := hgw1.block g (Gn.heap_lt hh) (by simp)
  have hne2 : b ≠ g := by have := Gn.heap_lt hh; omega
  have hcp1 : ∀ w : World, w.heap = W1.heap → ∀ ty dl dc, dl = cap + 1 - i → (Builtin.copy_ #[24, 24] ty #[.slice (some ⟨b, i * 3, none⟩) dl dc, .slice (some ⟨vb, 0, none⟩) 1 1]).run Tryz.prog w = .ok (goInt (1 : Nat)) (w.setRow b r1.toArray) := fun w e ty dl dc hd9 => by
    have := run_copy_k (P := Tryz.prog) w 24 24 ty 45 3 b (i * 3) dl dc ⟨vb, 0, none⟩ 1 1 1 row 45 news Tryz.underlying24 hsz (by rw [e]; exact hb1) (by simp only [Nat.min_def]; split <;> omega) (by rw [hvl]) (fun j v hj => by
      rw [Gn.add_row, cell_of_row _ _ j _ _ (0, 0) (by rw [e]; exact hvb1.trans hv)]
      simpa using hj) (by rw [hvl, hrs]; omega) h2
    rw [← hr1] at this
    exact this
  have hrow2 : ∀ (w : World) (r : Array Value) (k : Nat), k ≠ b → (w.setRow b r).heap[k]? = w.heap[k]? := fun w r k hk => by
    simp only [World.setRow]
    rw [Array.getElem?_modify, if_neg (fun e => hk e.symm)]
  have hcp2 : ∀ w : World, w.heap = (W1.setRow b r1.toArray).heap → ∀ ty dl dc sl sc, dl = cap - i → sl = cap - i → (Builtin.copy_ #[24, 24] ty #[.slice (some ⟨b, (i + 1) * 3, none⟩) dl dc, .slice (some ⟨g, i * 3, none⟩) sl sc]).run Tryz.prog w = .ok (goInt (cap - i : Nat)) (w.setRow b r2.toArray) := fun w e ty dl dc sl sc hd9 hs9 => by
    have hwb : w.heap[b]? = some (.cells r1.toArray 45 (0, 0)) := by rw [e]; exact setRow_heap _ _ _ _ _ _ hb1
    have hwg : w.heap[g]? = some (.cells cur 45 (0, 0)) := by rw [e, hrow2 _ _ _ (Ne.symm hne2), hg1]; exact hh
    have := run_copy_k (P := Tryz.prog) w 24 24 ty 45 3 b ((i + 1) * 3) dl dc ⟨g, i * 3, none⟩ sl sc (cap - i) r1.toArray 45 (xs.drop (i * 3)) Tryz.underlying24 hsz hwb (by simp only [Nat.min_def]; split <;> omega) hdl (fun j v hj => by
      have e9 : (⟨g, i * 3, none⟩ : Addr).add j = ⟨g, i * 3 + j, none⟩ := by unfold Addr.add; split <;> simp_all
      rw [e9, cell_of_row _ _ (i * 3 + j) _ _ (0, 0) hwg]
      rw [List.getElem?_drop, ← hcx] at hj
      simpa using hj) (by rw [hdl]; simp [hr1l]; omega) (fun v hv => h1 v (List.mem_of_mem_drop hv))
    simp only [List.toList_toArray] at this
    rw [← hr2] at this
    exact this
  have hfin : ∀ w : World, w.os = W.os → w.tape = W.tape → w.output = W.output → w.heap = ((W1.setRow b r1.toArray).setRow b r2.toArray).heap → InsOut 45 base W (.slice (some ⟨g, 0, none⟩) cap cap) cap i xs news (.returned (.slice (some ⟨b, 0, none⟩) (cap + 1) G)) w := fun w o1 o2 o3 e => by
    refine ⟨_, rfl, ⟨by rw [List.length_append, List.length_append, List.length_take, hdl, hvl]; omega, .inr ⟨b, G, r2.toArray, rfl, by rw [hbb]; exact hb, by rw [e]; exact setRow_heap _ _ _ _ _ (0, 0) (setRow_heap _ _ _ _ _ _ hb1), hGn, hGm, by rw [List.size_toArray, hspl.1, Array.length_toList, hrs], hspl.2⟩⟩, ⟨o1, o2, o3, ?_, fun k hk _ => ?_⟩⟩
    · rw [e]
      simpa [World.setRow] using hgw1.size
    · rw [e, hrow2 _ _ _ (by omega), hrow2 _ _ _ (by omega)]
      exact hgw1.block k hk (by simp)
  have hcm2 : cap ≤ 9223372036854775807 := hcm
  have hGm2 : G ≤ 9223372036854775807 := hGm
  rw [← hbb, ← hW1] at hap
  have HAP := Lib.hid hap
  have HC1 := Lib.hid hcp1
  have HC2 := Lib.hid hcp2
  have hf9 := hfin
  have HFI := Lib.hid hfin
  have HW1 := Lib.hid hW1
  have HBB := Lib.hid hbb
  have e1 : ¬ (i : Int) = (cap : Int) := by omega
  have e2 : (cap : Int) < (cap : Int) + 1 := by omega
  have e3 : IntKind.i64.wrap ((cap : Int) + 1) = (cap : Int) + 1 := IntWalk.i64_in _ (by omega)
  have e4 : IntKind.i64.wrap ((i : Int) + 1) = ((i + 1 : Nat) : Int) := IntWalk.i64_in _ (by omega)
  have e12 : IntKind.i64.wrap ((cap : Int) + 1 - (i : Int)) = (cap : Int) + 1 - (i : Int) := IntWalk.i64_in _ (by omega)
  have e5 : ¬ cap = i + 1 ∨ cap = i + 1 := by omega
  have e6 : ¬ cap = i := by omega
  have e7 : i ≤ cap := by omega
  have e8 : i + 1 ≤ cap + 1 := by omega
  have e9 : (0 : Int) ≤ (i : Int) + 1 := by omega
  have e13 : ¬ G = i := by omega
  have e14 : ¬ G = i + 1 := by omega
  clear e5 hap hcp1 hcp2 hfin hf9 hrow2 hgw1 hvb1 hg1 hne2 hb1 hspl hr1 hr2 hr1l hpx hdl hcl hct hcs hh hW1 hxl hown hold hcx hrs hrp hrow hG hbb hik hz3
  go_enter Tryz.func56, Tryz.ntmps56
  have hc1 := HC1.out W1 rfl 3 (cap + 1 - i) (G - i) rfl
  go_wp2_with (at_builtin; refine Lib.wpList_append_run _ rfl _ _ _ _ rfl _ _ rfl rfl _ _ (HAP.out _ _ (by omega)) ?_)
  go_region_law (refine step_copy_runI rfl _ _ 24 24 rfl (.slice (some ⟨b, (i + 1) * 3, none⟩) (cap - i) (G - (i + 1))) (.slice (some ⟨g, i * 3, none⟩) (cap - i) (cap - i)) (by simp [Act.eval, Act.put]) (by simp [Act.eval, Act.put]) (HC2.out (W1.setRow b r1.toArray).drew rfl 3 (cap - i) (G - (i + 1)) (cap - i) (cap - i) rfl rfl) ?_)
  go_wp2
  go_ret
  exact HFI.out _ (by rw [HW1.out]; rfl) (by rw [HW1.out]; rfl) (by rw [HW1.out]; rfl) rfl
set_option maxHeartbeats 8000000 in
theorem ins_Cls_gr (base : Nat) (W : World) (g cap n i : Nat) (xs news : List Value) (vb : Nat) (hown : W.ownsRow base 53 3 (.slice (some ⟨g, 0, none⟩) n cap) n xs) (hb : base ≤ W.heap.size) (hn : n ≤ 4096) (hi : i < n) (hcap : cap < n + 1) (hv : W.heap[vb]? = some (.cells news.toArray 53 (0, 0))) (hvl : news.length = 3) (h1 : ∀ u ∈ xs, u.oneCell' = true) (h2 : ∀ u ∈ news, u.oneCell' = true) :
    Calls Tryz.prog 57 #[.slice (some ⟨g, 0, none⟩) n cap, .int .i64 i, .slice (some ⟨vb, 0, none⟩) 1 1] W (InsOut 53 base W (.slice (some ⟨g, 0, none⟩) n cap) n i xs news) := by
  obtain ⟨i0, hi0, hz0, hz1, hz2⟩ := info_parts Cls_info
  have hsz : (Tryz.prog.info? 53).map (·.size) = some 3 := by rw [hi0]; simp [hz1]
  have hxl := hown.1
  rcases hown.2 with ⟨h0, _⟩ | ⟨g', cap', cur, h0, hbg, hh, hnc, hcm, hcs, hct⟩
  · cases h0
  injection h0 with h0 _ h0c
  injection h0 with h0
  injection h0 with h0
  subst h0
  subst h0c
  have hce : cap = n := by omega
  subst hce
  have hcl : cur.toList.length = cap * 3 := by rw [Array.length_toList]; exact hcs
  have hdl : (xs.drop (i * 3)).length = (cap - i) * 3 := by rw [List.length_drop, hxl, Nat.sub_mul]
  have hpx : cur.toList.take (i * 3) = xs.take (i * 3) := by rw [← hct, List.take_take, Nat.min_eq_left (by omega)]
  have hcx : cur.toList = xs := by rw [← hct, List.take_of_length_le (by omega)]
  have hold : (Builtin.firstCells i0.size i (.slice (some ⟨g, 0, none⟩) i cap)).run Tryz.prog W.drew = .ok (xs.take (i * 3)).toArray W.drew := by
    rw [hz1]
    exact run_firstCells_some W.drew 3 i ⟨g, 0, none⟩ i cap (xs.take (i * 3)) (by rw [List.length_take]; omega) (fun j v hj => by
      rw [Gn.add_row]
      show W.cell? _ = _
      rw [cell_of_row _ _ j _ _ (0, 0) hh]
      have hlt : j < i * 3 := by
        rcases Nat.lt_or_ge j (i * 3) with h9 | h9
        · exact h9
        · rw [List.getElem?_eq_none (by rw [List.length_take]; omega)] at hj; cases hj
      rw [List.getElem?_take_of_lt hlt, ← hcx] at hj
      simpa using hj)
  obtain ⟨G, hG⟩ : ∃ G, G = grownCap W (cap + 1) cap 53 := ⟨_, rfl⟩
  have hGn : cap + 1 ≤ G := by rw [hG]; exact grownCap_ge W _ _ _
  have hGm : G ≤ maxLen := by rw [hG]; exact grownCap_le_maxLen W (cap + 1) cap 53 (by unfold maxLen; omega)
  have hik : i + (cap + 1 - i) = cap + 1 := by omega
  obtain ⟨row, hrow⟩ : ∃ row : Array Value, row = (xs.take (i * 3)).toArray ++ Builtin.zeroCells (.agg #[.string ⟨#[]⟩, .string ⟨#[]⟩, .slice none 0 0] : Value).cells (cap + 1 - i) ++ Builtin.zeroCells (.agg #[.string ⟨#[]⟩, .string ⟨#[]⟩, .slice none 0 0] : Value).cells (G - (cap + 1)) := ⟨_, rfl⟩
  have hz3 : (.agg #[.string ⟨#[]⟩, .string ⟨#[]⟩, .slice none 0 0] : Value).cells.size = 3 := rfl
  have hrs : row.size = G * 3 := by
    rw [hrow]
    simp only [Array.size_append, List.size_toArray, List.length_take, Builtin.zeroCells, Array.size_map, Array.size_range, hz3]
    omega
  have hrp : row.toList.take (i * 3) = xs.take (i * 3) := by
    rw [hrow]
    simp only [Array.toList_append]
    rw [List.append_assoc, List.take_append_of_le_length (by simp [List.length_take]; omega)]
    exact List.take_of_length_le (by simp [List.length_take]; omega)
  have hap : ∀ ty q, q = ((cap + 1 - i : Nat) : Int) → (Builtin.append_ #[25, 3] ty #[.slice (some ⟨g, 0, none⟩) i cap, .int .i64 q]).run Tryz.prog W = .ok (.slice (some ⟨W.heap.size, 0, none⟩) (cap + 1) G) (W.drew.alloc (.cells row 53)) := fun ty q hq => by
    have h := Lib.run_append_grow_zeros W 25 3 ty 53 i0 _ .i64 .i64 Tryz.underlying25 Tryz.underlying3 hi0 hz0 (some ⟨g, 0, none⟩) i cap (xs.take (i * 3)) hold (cap + 1 - i) (by omega) (by rw [hz1]; decide) (by omega) (by omega) (by rw [hz2]; omega) (by rw [hz2, hik]; exact growslice_fits (by omega) (by omega))
    rw [hik, ← hG, ← hrow] at h
    rw [hq]
    exact h
  have hspl := rowk_grow row.toList xs news cap i cap hi hxl hvl (by rw [Array.length_toList, hrs]; omega) hrp
  obtain ⟨r1, hr1⟩ : ∃ r1, r1 = row.toList.take (i * 3) ++ news ++ row.toList.drop (i * 3 + news.length) := ⟨_, rfl⟩
  simp only [← hr1] at hspl
  obtain ⟨r2, hr2⟩ : ∃ r2, r2 = r1.take ((i + 1) * 3) ++ xs.drop (i * 3) ++ r1.drop ((i + 1) * 3 + (xs.drop (i * 3)).length) := ⟨_, rfl⟩
  simp only [← hr2] at hspl
  have hr1l : r1.length = G * 3 := by rw [hr1, List.length_append, List.length_append, List.length_take, List.length_drop, hvl, Array.length_toList, hrs]; omega
  obtain ⟨b, hbb⟩ : ∃ b, b = W.heap.size := ⟨_, rfl⟩
  obtain ⟨W1, hW1⟩ : ∃ W1, W1 = W.drew.alloc (.cells row 53) := ⟨_, rfl⟩
  have hb1 : W1.heap[b]? = some (.cells row 53 (0, 0)) := by rw [hW1, hbb]; exact heap_alloc_new W.drew _
  have hgw1 : W.grownBy W1 none := by rw [hW1]; exact ⟨rfl, rfl, rfl, by simp, fun k hk _ => heap_alloc_old W.drew _ hk⟩
  have hvb1 : W1.heap[vb]? = W.heap[vb]? := hgw1.block vb (Gn.heap_lt hv) (by simp)
  have hg1 : W1.heap[g]? = W.heap[g]? := hgw1.block g (Gn.heap_lt hh) (by simp)
  have hne2 : b ≠ g := by have := Gn.heap_lt hh; omega
  have hcp1 : ∀ w : World, w.heap = W1.heap → ∀ ty dl dc, dl = cap + 1 - i → (Builtin.copy_ #[25, 25] ty #[.slice (some ⟨b, i * 3, none⟩) dl dc, .slice (some ⟨vb, 0, none⟩) 1 1]).run Tryz.prog w = .ok (goInt (1 : Nat)) (w.setRow b r1.toArray) := fun w e ty dl dc hd9 => by
    have := run_copy_k (P := Tryz.prog) w 25 25 ty 53 3 b (i * 3) dl dc ⟨vb, 0, none⟩ 1 1 1 row 53 news Tryz.underlying25 hsz (by rw [e]; exact hb1) (by simp only [Nat.min_def]; split <;> omega) (by rw [hvl]) (fun j v hj => by
      rw [Gn.add_row, cell_of_row _ _ j _ _ (0, 0) (by rw [e]; exact hvb1.trans hv)]
      simpa using hj) (by rw [hvl, hrs]; omega) h2
    rw [← hr1] at this
    exact this
  have hrow2 : ∀ (w : World) (r : Array Value) (k : Nat), k ≠ b → (w.setRow b r).heap[k]? = w.heap[k]? := fun w r k hk => by
    simp only [World.setRow]
    rw [Array.getElem?_modify, if_neg (fun e => hk e.symm)]
  have hcp2 : ∀ w : World, w.heap = (W1.setRow b r1.toArray).heap → ∀ ty dl dc sl sc, dl = cap - i → sl = cap - i → (Builtin.copy_ #[25, 25] ty #[.slice (some ⟨b, (i + 1) * 3, none⟩) dl dc, .slice (some ⟨g, i * 3, none⟩) sl sc]).run Tryz.prog w = .ok (goInt (cap - i : Nat)) (w.setRow b r2.toArray) := fun w e ty dl dc sl sc hd9 hs9 => by
    have hwb : w.heap[b]? = some (.cells r1.toArray 53 (0, 0)) := by rw [e]; exact setRow_heap _ _ _ _ _ _ hb1
    have hwg : w.heap[g]? = some (.cells cur 53 (0, 0)) := by rw [e, hrow2 _ _ _ (Ne.symm hne2), hg1]; exact hh
    have := run_copy_k (P := Tryz.prog) w 25 25 ty 53 3 b ((i + 1) * 3) dl dc ⟨g, i * 3, none⟩ sl sc (cap - i) r1.toArray 53 (xs.drop (i * 3)) Tryz.underlying25 hsz hwb (by simp only [Nat.min_def]; split <;> omega) hdl (fun j v hj => by
      have e9 : (⟨g, i * 3, none⟩ : Addr).add j = ⟨g, i * 3 + j, none⟩ := by unfold Addr.add; split <;> simp_all
      rw [e9, cell_of_row _ _ (i * 3 + j) _ _ (0, 0) hwg]
      rw [List.getElem?_drop, ← hcx] at hj
      simpa using hj) (by rw [hdl]; simp [hr1l]; omega) (fun v hv => h1 v (List.mem_of_mem_drop hv))
    simp only [List.toList_toArray] at this
    rw [← hr2] at this
    exact this
  have hfin : ∀ w : World, w.os = W.os → w.tape = W.tape → w.output = W.output → w.heap = ((W1.setRow b r1.toArray).setRow b r2.toArray).heap → InsOut 53 base W (.slice (some ⟨g, 0, none⟩) cap cap) cap i xs news (.returned (.slice (some ⟨b, 0, none⟩) (cap + 1) G)) w := fun w o1 o2 o3 e => by
    refine ⟨_, rfl, ⟨by rw [List.length_append, List.length_append, List.length_take, hdl, hvl]; omega, .inr ⟨b, G, r2.toArray, rfl, by rw [hbb]; exact hb, by rw [e]; exact setRow_heap _ _ _ _ _ (0, 0) (setRow_heap _ _ _ _ _ _ hb1), hGn, hGm, by rw [List.size_toArray, hspl.1, Array.length_toList, hrs], hspl.2⟩⟩, ⟨o1, o2, o3, ?_, fun k hk _ => ?_⟩⟩
    · rw [e]
      simpa [World.setRow] using hgw1.size
    · rw [e, hrow2 _ _ _ (by omega), hrow2 _ _ _ (by omega)]
      exact hgw1.block k hk (by simp)
  have hcm2 : cap ≤ 9223372036854775807 := hcm
  have hGm2 : G ≤ 9223372036854775807 := hGm
  rw [← hbb, ← hW1] at hap
  have HAP := Lib.hid hap
  have HC1 := Lib.hid hcp1
  have HC2 := Lib.hid hcp2
  have hf9 := hfin
  have HFI := Lib.hid hfin
  have HW1 := Lib.hid hW1
  have HBB := Lib.hid hbb
  have e1 : ¬ (i : Int) = (cap : Int) := by omega
  have e2 : (cap : Int) < (cap : Int) + 1 := by omega
  have e3 : IntKind.i64.wrap ((cap : Int) + 1) = (cap : Int) + 1 := IntWalk.i64_in _ (by omega)
  have e4 : IntKind.i64.wrap ((i : Int) + 1) = ((i + 1 : Nat) : Int) := IntWalk.i64_in _ (by omega)
  have e12 : IntKind.i64.wrap ((cap : Int) + 1 - (i : Int)) = (cap : Int) + 1 - (i : Int) := IntWalk.i64_in _ (by omega)
  have e5 : ¬ cap = i + 1 ∨ cap = i + 1 := by omega
  have e6 : ¬ cap = i := by omega
  have e7 : i ≤ cap := by omega
  have e8 : i + 1 ≤ cap + 1 := by omega
  have e9 : (0 : Int) ≤ (i : Int) + 1 := by omega
  have e13 : ¬ G = i := by omega
  have e14 : ¬ G = i + 1 := by omega
  clear e5 hap hcp1 hcp2 hfin hf9 hrow2 hgw1 hvb1 hg1 hne2 hb1 hspl hr1 hr2 hr1l hpx hdl hcl hct hcs hh hW1 hxl hown hold hcx hrs hrp hrow hG hbb hik hz3
  go_enter Tryz.func57, Tryz.ntmps57
  have hc1 := HC1.out W1 rfl 3 (cap + 1 - i) (G - i) rfl
  go_wp2_with (at_builtin; refine Lib.wpList_append_run _ rfl _ _ _ _ rfl _ _ rfl rfl _ _ (HAP.out _ _ (by omega)) ?_)
  go_region_law (refine step_copy_runI rfl _ _ 25 25 rfl (.slice (some ⟨b, (i + 1) * 3, none⟩) (cap - i) (G - (i + 1))) (.slice (some ⟨g, i * 3, none⟩) (cap - i) (cap - i)) (by simp [Act.eval, Act.put]) (by simp [Act.eval, Act.put]) (HC2.out (W1.setRow b r1.toArray).drew rfl 3 (cap - i) (G - (i + 1)) (cap - i) (cap - i) rfl rfl) ?_)
  go_wp2
  go_ret
  exact HFI.out _ (by rw [HW1.out]; rfl) (by rw [HW1.out]; rfl) (by rw [HW1.out]; rfl) rfl
theorem ins_Mem_any (base : Nat) (W : World) (s : Value) (n i : Nat) (xs news : List Value) (vb : Nat) (hown : W.ownsRow base 45 3 s n xs) (hb : base ≤ W.heap.size) (hi : i ≤ n) (hn : n ≤ 4096) (hv : W.heap[vb]? = some (.cells news.toArray 45 (0, 0))) (hvl : news.length = 3) (hne : s.ownBlock ≠ some vb) (h1 : ∀ u ∈ xs, u.oneCell' = true) (h2 : ∀ u ∈ news, u.oneCell' = true) :
    Calls Tryz.prog 56 #[s, .int .i64 i, .slice (some ⟨vb, 0, none⟩) 1 1] W (InsOut 45 base W s n i xs news) := by
  by_cases hin : i = n
  · subst hin
    exact ins_Mem_end base W s i xs news vb hown hb hn hv hvl h2
  · rcases hown.2 with ⟨rfl, rfl⟩ | ⟨g, cap, cur, rfl, hbg, hh, hnc, hcm, hcs, hct⟩
    · omega
    · by_cases hc : n + 1 ≤ cap
      · exact ins_Mem_in base W g cap n i xs news vb hown hb hn (by omega) hc hv hvl (fun e => hne (by rw [e]; rfl)) h1 h2
      · exact ins_Mem_gr base W g cap n i xs news vb hown hb hn (by omega) (by omega) hv hvl h1 h2
theorem ins_Cls_any (base : Nat) (W : World) (s : Value) (n i : Nat) (xs news : List Value) (vb : Nat) (hown : W.ownsRow base 53 3 s n xs) (hb : base ≤ W.heap.size) (hi : i ≤ n) (hn : n ≤ 4096) (hv : W.heap[vb]? = some (.cells news.toArray 53 (0, 0))) (hvl : news.length = 3) (hne : s.ownBlock ≠ some vb) (h1 : ∀ u ∈ xs, u.oneCell' = true) (h2 : ∀ u ∈ news, u.oneCell' = true) :
    Calls Tryz.prog 57 #[s, .int .i64 i, .slice (some ⟨vb, 0, none⟩) 1 1] W (InsOut 53 base W s n i xs news) := by
  by_cases hin : i = n
  · subst hin
    exact ins_Cls_end base W s i xs news vb hown hb hn hv hvl h2
  · rcases hown.2 with ⟨rfl, rfl⟩ | ⟨g, cap, cur, rfl, hbg, hh, hnc, hcm, hcs, hct⟩
    · omega
    · by_cases hc : n + 1 ≤ cap
      · exact ins_Cls_in base W g cap n i xs news vb hown hb hn (by omega) hc hv hvl (fun e => hne (by rw [e]; rfl)) h1 h2
      · exact ins_Cls_gr base W g cap n i xs news vb hown hb hn (by omega) (by omega) hv hvl h1 h2
end Go.Proofs.YtnmhgjoofgmcgaaGreat.Rl
