/-
  Layer 27: a network's frames: add, Send, Look, Double.
-/
import Derived.Test.YtdkigbaodbkebaaNtA
import Derived.Test.YtdkigbaodbkebaaHeldU
namespace Go.Proofs.Ytdkigbaodbkebaa.Nt
open Go.RowKit
set_option maxRecDepth 100000
set_option linter.unusedSimpArgs false
set_option linter.unusedVariables false
/-- Append of one item of so many cells, as a step of a region that draws. -/
theorem step_append {ops : Array Oper} {o : Oper} {a : Act} {K : Act → World → Prop} {Q : Exit → Act → World → Prop} {E : Prop} (w : World) (hgd : o.guard = none) (s x : Operand) (T E' : TypeId) (size : Nat) (hs0 : 0 < size)
    (ho : o.op = .call { callee := .builtin .append, args := #[s, x], argTypes := #[T, T] }) (i : TypeInfo) (z : Value) (bytes : Nat) (hT : Try.prog.underlying T = some (.slice E')) (hi : Try.prog.info? E' = some i) (hz : i.zero = some z) (hsize : i.size = size) (hby : i.bytes = bytes) (hzs : z.cells.size = size)
    (base : Nat) (v : Value) (n : Nat) (xs : List Value) (hs : a.eval s = v) (hown : w.ownsRow base E' size v n xs) (ad : Addr) (c : Nat) (hx : a.eval x = .slice (some ad) 1 c) (news : List Value) (hl : news.length = size) (hnews : ∀ j u, news[j]? = some u → w.cell? (ad.add j) = some u) (h1 : ∀ u ∈ news, u.oneCell' = true) (h63 : n + 1 ≤ maxLen) (hbytes : (n + 1) * bytes ≤ 140737488355328) (hb : base ≤ w.heap.size)
    (h : ∀ v' w', w'.ownsRow base E' size v' (n + 1) (xs ++ news) → w.grownBy w' v.ownBlock → K (a.put o.dst v') w') :
    if Region.wanted o (yielded ops a.tmps) = true then Oper.wp Try.prog o a w K Q else E := by
  have hw : Region.wanted o (yielded ops a.tmps) = true := by simp [Region.wanted, hgd]
  rw [if_pos hw]
  obtain ⟨v', w', hr, h2, h3, _⟩ := run_append_own (P := Try.prog) w base T o.type E' i z size bytes hT hi hz hsize hby hzs hs0 v n xs hown ad 1 c news (by rw [hl, Nat.one_mul]) hnews h1 h63 hbytes hb
  unfold Oper.wp execOp
  simp only [ho, resolve, invoke, builtin, Sem.run_bind, Sem.run_pure, Result.andThen_ok, List.map_toArray, List.map_cons, List.map_nil, hs, hx, hr]
  exact h v' w' h2 h3
theorem info_split {i : Option TypeInfo} {z : Value} {k b : Nat} (h : i.map (fun i => (i.zero, i.size, i.bytes)) = some (some z, k, b)) : ∃ j, i = some j ∧ j.zero = some z ∧ j.size = k ∧ j.bytes = b := by
  cases i with
  | none => cases h
  | some j =>
    injection h with h
    injection h with h1 h2
    injection h2 with h2 h3
    exact ⟨j, rfl, h1, h2, h3⟩
theorem results_ct {P : Program} {fn : Func} {p q : Tmp} {uy : TypeId} (h : fn.results = #[.cell q uy, .tmp p]) (tmps : Array Value) (w : World) (k : Nat) (u : TypeId) (ds : Array Value) (fs : Nat × Nat) (e : TypeDesc) (v : Value)
    (hp : tmps.getD p undef = v) (hq : tmps.getD q undef = .pointer (some ⟨k, 0, none⟩)) (hk : w.heap[k]? = some (.cells ds u fs))
    (hv : P.underlying uy = some e) (he : (match e with | .struct _ | .array _ _ => true | _ => false) = true) (hj : (P.info? uy).map (·.size) = some ds.size) :
    (results fn tmps).run P w = .ok (.tuple #[.agg ds, v]) w := by
  have hp' : tmps[p]?.getD undef = v := by simpa using hp
  have hq' : tmps[q]?.getD undef = .pointer (some ⟨k, 0, none⟩) := by simpa using hq
  simp [results, h, hp', hq', asAddr, run_loadVar_row w k u uy ds fs e hk hv he hj]
theorem own_set {w : World} {base : Nat} {e t : TypeId} {size : Nat} {v : Value} {n g : Nat} {xs : List Value} {cs : Array Value} {fr : Nat × Nat} (h : w.ownsRow base e size v n xs) (hg : w.heap[g]? = some (.cells cs t fr)) (hne : e ≠ t) (i : Nat) (u : Value) : (w.setCell ⟨g, i, none⟩ u).ownsRow base e size v n xs := by
  refine ⟨h.1, ?_⟩
  rcases h.2 with h2 | ⟨g', cap, cur, h1, hb, hh, hrest⟩
  · exact .inl h2
  · refine .inr ⟨g', cap, cur, h1, hb, ?_, hrest⟩
    rw [Below.heap_setCell]
    · exact hh
    · intro he
      have he2 : g' = g := he
      rw [he2, hg] at hh
      injection hh with hh
      injection hh with _ h2
      exact hne h2.symm
theorem four_new (w : World) (f : Fr) {q : Nat} (h : w.heap[q]? = some (.cells #[.int .i64 f.frm, .int .i64 f.dst, .string f.bytes, .bool f.sp] 35 (0, 0))) : ∀ j u, (frC f)[j]? = some u → w.cell? ((⟨q, 0, none⟩ : Addr).add j) = some u := fun j u hj => by
  rw [Gn.add_row, cell_of_row _ _ j _ _ (0, 0) h]
  simpa [frC] using hj
theorem fr_info : (Try.prog.info? 35).map (fun i => (i.zero, i.size, i.bytes)) = some (some (.agg #[.int .i64 0, .int .i64 0, .string ⟨#[]⟩, .bool false]), 4, 40) := by kernel_rfl
/-- The row has grown; it is not yet the network's. -/
structure GrX (base b : Nat) (fs : List Fr) (f : Fr) (A : Option Addr) (cap : Nat) (v : Value) (W w : World) : Prop where
  box : w.heap[b]? = some (.cells #[.slice A fs.length cap] 26 (0, 0))
  row : w.ownsRow base 35 4 v (fs.length + 1) (frsC fs ++ frC f)
  bb : base ≤ b
  sep : NSep base b W w
theorem NetX.grow {base b : Nat} {fs : List Fr} {f : Fr} {A : Option Addr} {cap : Nat} {v : Value} {W w w' : World} (h : NetX base b fs A cap w) (hs : NSep base b W w) (hb : base ≤ w.heap.size) (ho : w'.ownsRow base 35 4 v (fs.length + 1) (frsC fs ++ frC f)) (hg : w.grownBy w' (Value.slice A fs.length cap).ownBlock) : GrX base b fs f A cap v W w' := by
  refine ⟨?_, ho, h.bb, hs.grown hg h.row hb⟩
  have hne : (some b : Option Nat) ≠ (Value.slice A fs.length cap).ownBlock := fun e => by
    rcases h.row.2 with ⟨h1, _⟩ | ⟨g', cp, cur, h1, _, h3, _⟩
    · rw [h1] at e; simp [Value.ownBlock] at e
    · rw [h1] at e
      simp [Value.ownBlock] at e
      rw [← e, h.box] at h3
      injection h3 with h3
      injection h3 with _ h3
      exact absurd h3 (by decide)
  obtain ⟨_, _, _, _, g5⟩ := hg
  exact (g5 b (Gn.heap_lt h.box) hne).trans h.box
theorem GrX.done {base b : Nat} {fs : List Fr} {f : Fr} {A : Option Addr} {cap : Nat} {v : Value} {W w : World} (h : GrX base b fs f A cap v W w) : NetAt base b (fs ++ [f]) (w.setCell ⟨b, 0, none⟩ v) ∧ NSep base b W (w.setCell ⟨b, 0, none⟩ v) := by
  obtain ⟨A2, c2, rfl⟩ := Gn.slice_of h.row
  refine ⟨⟨A2, c2, ?_, ?_, h.bb⟩, h.sep.setBox h.bb 0 _⟩
  · rw [Gn.heap_set h.box 0 (.slice A2 (fs.length + 1) c2)]
    simp
  · have := own_set h.row h.box (by decide) 0 (.slice A2 (fs.length + 1) c2)
    rw [frsC_app, List.length_append]
    simpa [frsC] using this
/-- What add leaves. -/
def AddT (base b : Nat) (fs : List Fr) (f : Fr) (w : World) (e : Ending) (w' : World) : Prop := e = .returned (.bool (decide (fs.length < 1024))) ∧ NetAt base b (if fs.length < 1024 then fs ++ [f] else fs) w' ∧ NSep base b w w'
theorem AddT.full {base b : Nat} {fs : List Fr} {f : Fr} {w w' : World} (h : NetAt base b fs w') (hs : NSep base b w w') (hn : fs.length = 1024) : AddT base b fs f w (.returned (.bool false)) w' := by
  unfold AddT
  rw [hn]
  exact ⟨rfl, h, hs⟩
theorem AddT.more {base b : Nat} {fs : List Fr} {f : Fr} {w w' : World} (h : NetAt base b (fs ++ [f]) w' ∧ NSep base b w w') (hn : fs.length < 1024) : AddT base b fs f w (.returned (.bool true)) w' := by
  unfold AddT
  rw [decide_eq_true hn, if_pos hn]
  exact ⟨rfl, h⟩
def AGF (f : Fr) : Value := .agg #[.int .i64 f.frm, .int .i64 f.dst, .string f.bytes, .bool f.sp]
set_option maxHeartbeats 8000000 in
theorem add_any {base b : Nat} {fs : List Fr} {A : Option Addr} {cap : Nat} {w : World} (h : NetX base b fs A cap w) (f : Fr) (hn : fs.length ≤ 1024) (hb : base ≤ w.heap.size) :
    Calls Try.prog 14 #[.pointer (some ⟨b, 0, none⟩), AGF f] w (AddT base b fs f w) := by
  obtain ⟨i0, hi0, hz0, hz1, hz2⟩ := info_split fr_info
  obtain ⟨f0, f1, f2, f3⟩ := f
  obtain ⟨n, hnn⟩ : ∃ n, n = fs.length := ⟨_, rfl⟩
  obtain ⟨xb, hxb⟩ : ∃ x, x = w.heap.size := ⟨_, rfl⟩
  obtain ⟨V, hV⟩ : ∃ V, V = w.alloc (.cells #[.int .i64 f0, .int .i64 f1, .string f2, .bool f3] 35) := ⟨_, rfl⟩
  have hbv : Below w.heap.size w V := by rw [hV]; exact (Below.refl _ w).alloc (Nat.le_refl _) _
  have hx : V.heap[xb]? = some (.cells #[.int .i64 f0, .int .i64 f1, .string f2, .bool f3] 35 (0, 0)) := by rw [hV, hxb]; exact heap_alloc_new w _
  have hne : (some xb : Option Nat) ≠ (Value.slice A n cap).ownBlock := fun e => by
    rw [hnn] at e
    have := Gn.own_lt h.row xb e.symm
    omega
  have hbx : b ≠ xb := by have := Gn.heap_lt h.box; omega
  have hnil := isnt_nil V ⟨b, 0, none⟩
  have hc := cell_of_row _ _ 0 _ _ (0, 0) (h.below hbv).box
  rw [← hnn] at hc
  have HN := Lib.hid (h.below hbv)
  have HN0 := Lib.hid h
  have HX := Lib.hid hx
  have HNE := Lib.hid hne
  have HBX := Lib.hid hbx
  have HB := Lib.hid hbv
  have HB0 := Lib.hid hb
  have HV := Lib.hid hV
  have HXB := Lib.hid hxb
  have HFF := Lib.hid (fun (w' : World) (h : w'.heap[xb]? = some (.cells #[.int .i64 f0, .int .i64 f1, .string f2, .bool f3] 35 (0, 0))) => show (fun w' : World => w'.cell? ⟨xb, 0, none⟩ = some (.int .i64 f0) ∧ w'.cell? ⟨xb, 1, none⟩ = some (.int .i64 f1) ∧ w'.cell? ⟨xb, 2, none⟩ = some (.string f2) ∧ w'.cell? ⟨xb, 3, none⟩ = some (.bool f3)) w' from ⟨cell_of_row _ _ 0 _ _ (0, 0) h, cell_of_row _ _ 1 _ _ (0, 0) h, cell_of_row _ _ 2 _ _ (0, 0) h, cell_of_row _ _ 3 _ _ (0, 0) h⟩)
  have HNN := Lib.hid hnn
  have HGB := Lib.hid (fun (w' : World) (h : w'.heap[b]? = some (.cells #[.slice A fs.length cap] 26 (0, 0))) => show (fun w' : World => w'.cell? ⟨b, 0, none⟩ = some (.slice A n cap)) w' from by
    have := cell_of_row _ _ 0 _ _ (0, 0) h
    rw [← HNN.out] at this
    exact this)
  have HGG := Lib.hid (fun (w' : World) (h : NetX base b fs A cap w') => show (fun w' : World => w'.cell? ⟨b, 0, none⟩ = some (.slice A n cap)) w' from HGB.out _ h.box)
  have HE := Lib.hid (fun (hh : n = 1024) => show AddT base b fs ⟨f0, f1, f2, f3⟩ w (.returned (.bool false)) V from AddT.full (h.below hbv).at_ (NSep.of_below hbv hb) (by rw [← hnn]; exact hh))
  have HLT0 := Lib.hid (fun (hh : n ≠ 1024) => show fs.length < 1024 from by rw [← hnn] at hn ⊢; omega)
  rw [← hnn] at hn
  clear h hnn hbv hx hne hbx hb hV hxb
  show Calls Try.prog 14 #[.pointer (some ⟨b, 0, none⟩), .agg #[.int .i64 f0, .int .i64 f1, .string f2, .bool f3]] w _
  by_cases h1 : n = 1024
  · have HE2 := Lib.hid (HE.out h1)
    clear HE HLT0
    subst h1
    go_enter Try.func14, Try.ntmps14
    go_upto_region 1 with fail
    rw [← HV.out]
    go_wp2_with fail
    go_ret
    exact HE2.out
  · have h2 : ((n : Int) == 1024) = false := by simpa using (show ¬ (n : Int) = 1024 by omega)
    have HLT := Lib.hid (HLT0.out h1)
    go_enter Try.func14, Try.ntmps14
    go_upto_region 1 with fail
    rw [← HV.out, ← HXB.out]
    go_upto_region 3 with fail
    clear hc hnil h2
    have HB := Lib.hid (Gn.below_drew HB.out)
    have HN := Lib.hid (HN.out.below (w' := V.drew) (Gn.below_drew (Below.refl _ _)))
    have HX := Lib.hid (show V.drew.heap[xb]? = _ from HX.out)
    refine wp_region_noPanic ?_
    refine HeldU.wp_region_until (F := (fun w' : World => w'.cell? ⟨xb, 0, none⟩ = some (.int .i64 f0) ∧ w'.cell? ⟨xb, 1, none⟩ = some (.int .i64 f1) ∧ w'.cell? ⟨xb, 2, none⟩ = some (.string f2) ∧ w'.cell? ⟨xb, 3, none⟩ = some (.bool f3))) (G := (fun w' : World => w'.cell? ⟨b, 0, none⟩ = some (.slice A n cap))) (k := 10) (by kernel_rfl) (HFF.out _ HX.out) ?_ (fun hHeld => ?_)
    · exact HGG.out _ HN.out
    conv in Array.replicate _ false => change #[false, false, false, false, false, false, false, false, false, false, false]
    refine HeldU.wpAnyU_take (i := 0) (v := ?_) rfl (by kernel_rfl) (by kernel_rfl) (by kernel_rfl) (by kernel_rfl) (by rfl) (fun _ _ _ h => h) (Or.inl ⟨by rfl, ?_⟩) (by assumption) ?_
    rotate_left
    · intro w hSw
      try dsimp only at hSw
      go_simp
      try with_reducible rfl
    try simp only [Act.put, List.getElem_toArray, List.getElem_cons_zero, List.getElem_cons_succ, List.setIfInBounds_toArray, List.set_cons_zero, List.set_cons_succ]
    refine HeldU.wpAnyU_take (i := 1) (v := ?_) rfl (by kernel_rfl) (by kernel_rfl) (by kernel_rfl) (by kernel_rfl) (by rfl) (fun _ _ _ h => h) (Or.inl ⟨by rfl, ?_⟩) (by assumption) ?_
    rotate_left
    · intro w hSw
      try dsimp only at hSw
      go_simp
      try with_reducible rfl
    try simp only [Act.put, List.getElem_toArray, List.getElem_cons_zero, List.getElem_cons_succ, List.setIfInBounds_toArray, List.set_cons_zero, List.set_cons_succ]
    refine HeldU.wpAnyU_take (i := 2) (v := ?_) rfl (by kernel_rfl) (by kernel_rfl) (by kernel_rfl) (by kernel_rfl) (by rfl) (fun _ _ _ h => h) (Or.inl ⟨by rfl, ?_⟩) (by assumption) ?_
    rotate_left
    · intro w hSw
      try dsimp only at hSw
      go_simp
      try with_reducible rfl
    try simp only [Act.put, List.getElem_toArray, List.getElem_cons_zero, List.getElem_cons_succ, List.setIfInBounds_toArray, List.set_cons_zero, List.set_cons_succ]
    refine HeldU.wpAnyU_take (i := 3) (v := ?_) rfl (by kernel_rfl) (by kernel_rfl) (by kernel_rfl) (by kernel_rfl) (by rfl) (fun _ _ _ h => h) (Or.inl ⟨by rfl, ?_⟩) (by assumption) ?_
    rotate_left
    · intro w hSw
      try dsimp only at hSw
      go_simp
      try with_reducible rfl
    try simp only [Act.put, List.getElem_toArray, List.getElem_cons_zero, List.getElem_cons_succ, List.setIfInBounds_toArray, List.set_cons_zero, List.set_cons_succ]
    refine HeldU.wpAnyU_early (i := 4) (v := ?_) rfl (by kernel_rfl) (by kernel_rfl) (by kernel_rfl) (by kernel_rfl) (by rfl) (by kernel_rfl) (fun _ _ _ h => h) (Or.inl ⟨by rfl, ?_⟩) (by assumption) ?_
    rotate_left
    · intro w hSw
      have hG := hSw.2
      clear hSw
      try dsimp only at hG
      go_simp
      try with_reducible rfl
    try simp only [Act.put, List.getElem_toArray, List.getElem_cons_zero, List.getElem_cons_succ, List.setIfInBounds_toArray, List.set_cons_zero, List.set_cons_succ]
    refine HeldU.wpAnyU_take (i := 5) (v := ?_) rfl (by kernel_rfl) (by kernel_rfl) (by kernel_rfl) (by kernel_rfl) (by rfl) (fun _ _ _ h => h) (Or.inl ⟨by rfl, ?_⟩) (by assumption) ?_
    rotate_left
    · intro w hSw
      try dsimp only at hSw
      go_simp
      try with_reducible rfl
    try simp only [Act.put, List.getElem_toArray, List.getElem_cons_zero, List.getElem_cons_succ, List.setIfInBounds_toArray, List.set_cons_zero, List.set_cons_succ]
    refine HeldU.wpAnyU_ready (rs := [6]) (by kernel_rfl) (by simp) ?_
    refine HeldU.AllReadyU.cons rfl (fun K hK => ?_) HeldU.AllReadyU.nil
    go_simp
    have hab := (Below.refl (V.drew).heap.size V.drew).alloc (Nat.le_refl _) (.cells #[.int .i64 f0, .int .i64 f1, .string f2, .bool f3] 35)
    have HN2 := Lib.hid (heap_alloc_new V.drew (.cells #[.int .i64 f0, .int .i64 f1, .string f2, .bool f3] 35))
    have HN := Lib.hid (HN.out.below (w' := V.drew.alloc _) hab)
    have HX := Lib.hid ((hab.block _ (Gn.heap_lt HX.out)).trans HX.out)
    have HB := Lib.hid (HB.out.trans (hab.mono HB.out.size))
    clear hab
    refine hK.out _ _ ⟨HFF.out _ HX.out, fun _ => HGG.out _ HN.out⟩ (fun hHeld => ?_)
    clear hK K
    try simp only [Act.put, List.getElem_toArray, List.getElem_cons_zero, List.getElem_cons_succ, List.setIfInBounds_toArray, List.set_cons_zero, List.set_cons_succ]
    refine HeldU.wpAnyU_ready (rs := [7]) (by kernel_rfl) (by simp) ?_
    refine HeldU.AllReadyU.cons rfl (fun K hK => ?_) HeldU.AllReadyU.nil
    refine step_append _ (by rfl) (.tmp 19) (.tmp 21) 24 35 4 (by decide) (by rfl) i0 (.agg #[.int .i64 0, .int .i64 0, .string ⟨#[]⟩, .bool false]) 40 Try.underlying24 hi0 hz0 hz1 hz2 (by rfl) base (.slice A n cap) n _ (by simp [Act.eval]) (by rw [HNN.out]; exact HN.out.row) ⟨V.drew.heap.size, 0, none⟩ 1 (by simp [Act.eval]) (frC ⟨f0, f1, f2, f3⟩) rfl (four_new _ ⟨f0, f1, f2, f3⟩ HN2.out) (frC_one _) (by unfold maxLen; omega) (by omega) (Nat.le_trans HB0.out HB.out.size) ?_
    intro v6 w6 ho hg
    obtain ⟨A6, c6, rfl⟩ := Gn.slice_of ho
    have HX6 := Lib.hid (show w6.heap[xb]? = _ from by
      obtain ⟨_, _, _, _, g5⟩ := hg
      exact (g5 xb (Gn.heap_lt HX.out) HNE.out).trans HX.out)
    have HG := Lib.hid (NetX.grow (W := w) (v := .slice A6 (n + 1) c6) HN.out (NSep.of_below HB.out HB0.out) (Nat.le_trans HB0.out HB.out.size) (by rw [← HNN.out]; exact ho) (by rw [← HNN.out]; exact hg))
    clear ho hg
    refine hK.out _ _ ⟨HFF.out _ HX6.out, fun _ => HGB.out _ HG.out.box⟩ (fun hHeld => ?_)
    clear hK K
    try simp only [Act.put, List.getElem_toArray, List.getElem_cons_zero, List.getElem_cons_succ, List.setIfInBounds_toArray, List.set_cons_zero, List.set_cons_succ]
    refine HeldU.wpAnyU_take (i := 8) (v := ?_) rfl (by kernel_rfl) (by kernel_rfl) (by kernel_rfl) (by kernel_rfl) (by rfl) (fun _ _ _ h => h) (Or.inl ⟨by rfl, ?_⟩) (by assumption) ?_
    rotate_left
    · intro w hSw
      try dsimp only at hSw
      go_simp
      try with_reducible rfl
    try simp only [Act.put, List.getElem_toArray, List.getElem_cons_zero, List.getElem_cons_succ, List.setIfInBounds_toArray, List.set_cons_zero, List.set_cons_succ]
    refine HeldU.wpAnyU_take (i := 9) (v := ?_) rfl (by kernel_rfl) (by kernel_rfl) (by kernel_rfl) (by kernel_rfl) (by rfl) (fun _ _ _ h => h) (Or.inl ⟨by rfl, ?_⟩) (by assumption) ?_
    rotate_left
    · intro w hSw
      try dsimp only at hSw
      go_simp
      try with_reducible rfl
    try simp only [Act.put, List.getElem_toArray, List.getElem_cons_zero, List.getElem_cons_succ, List.setIfInBounds_toArray, List.set_cons_zero, List.set_cons_succ]
    refine HeldU.wpAnyU_ready (rs := [10]) (by kernel_rfl) (by simp) ?_
    refine HeldU.AllReadyU.cons rfl (fun K hK => ?_) HeldU.AllReadyU.nil
    have c0 := HGB.out _ HG.out.box
    have hfz := Gn.frozen_row HG.out.box 0
    go_simp
    clear c0 hfz
    have HD := Lib.hid HG.out.done
    have HX7 := Lib.hid (show (w6.setCell ⟨b, 0, none⟩ (.slice A6 (n + 1) c6)).heap[xb]? = _ from (Gn.set_keep _ 0 _ HBX.out).trans HX6.out)
    refine hK.out _ _ ⟨HFF.out _ HX7.out, fun h => Bool.noConfusion (show true = false from h)⟩ (fun hHeld => ?_)
    clear hK K
    try simp only [Act.put, List.getElem_toArray, List.getElem_cons_zero, List.getElem_cons_succ, List.setIfInBounds_toArray, List.set_cons_zero, List.set_cons_succ]
    refine HeldU.wpAnyU_done (by kernel_rfl) ?_ _
    refine NoPanic.normal ?_
    go_wp2_with fail
    go_ret
    exact AddT.more HD.out HLT.out
end Go.Proofs.Ytdkigbaodbkebaa.Nt
