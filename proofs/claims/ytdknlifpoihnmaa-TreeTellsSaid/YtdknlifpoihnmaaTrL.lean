/-
  Layer 14: the law's grammar that is a chain; its speaks.
-/
import Derived.Test.YtdknlifpoihnmaaTrK
import Derived.Test.YtdknlifpoihnmaaTrH
namespace Go.Proofs.Ytdknlifpoihnmaa.Tr
open Go.RowKit
open Gn (Asks)
open Oct (gb bs)
open Fx (IntsAt StrsAt Prd PG PrdsAt PgAt PgBox soundB sound_any)
set_option maxRecDepth 100000
set_option linter.unusedSimpArgs false
set_option linter.unusedVariables false

def c0 : PG := ⟨0, 1, [⟨#[83]⟩], [⟨#[120]⟩], [⟨0, [-1, 0]⟩, ⟨0, []⟩]⟩
theorem c0_sound : soundB c0 = true := by kernel_rfl
theorem c0_fits : c0.Fits := by
  refine ⟨?_, fun s hs => ?_, fun s hs => ?_, fun p hp => ?_⟩
  · exact ⟨by decide, by decide, by decide⟩
  · simp [c0] at hs; subst hs; decide
  · simp [c0] at hs; subst hs; decide
  · simp [c0] at hp; rcases hp with rfl | rfl <;> decide
theorem c0_mem (W : World) : PgAt (fun q => W.heap.size ≤ q) (((((W.alloc (.cells #[.int .i64 0, .int .i64 1, .slice (some ⟨W.heap.size + 1, 0, none⟩) 1 1, .slice (some ⟨W.heap.size + 1 + 1, 0, none⟩) 1 1, .slice (some ⟨W.heap.size + 1 + 1 + 1 + 1, 0, none⟩) 2 2] 31)).alloc (.cells #[.string ⟨#[83]⟩] 9)).alloc (.cells #[.string ⟨#[120]⟩] 9)).alloc (.cells #[.int .i64 (-1), .int .i64 0] 3)).alloc (.cells #[.int .i64 0, .slice (some ⟨W.heap.size + 1 + 1 + 1, 0, none⟩) 2 2, .int .i64 0, .slice none 0 0] 79)) c0 (.agg #[.int .i64 0, .int .i64 1, .slice (some ⟨W.heap.size + 1, 0, none⟩) 1 1, .slice (some ⟨W.heap.size + 1 + 1, 0, none⟩) 1 1, .slice (some ⟨W.heap.size + 1 + 1 + 1 + 1, 0, none⟩) 2 2]) ∧ Below W.heap.size W (((((W.alloc (.cells #[.int .i64 0, .int .i64 1, .slice (some ⟨W.heap.size + 1, 0, none⟩) 1 1, .slice (some ⟨W.heap.size + 1 + 1, 0, none⟩) 1 1, .slice (some ⟨W.heap.size + 1 + 1 + 1 + 1, 0, none⟩) 2 2] 31)).alloc (.cells #[.string ⟨#[83]⟩] 9)).alloc (.cells #[.string ⟨#[120]⟩] 9)).alloc (.cells #[.int .i64 (-1), .int .i64 0] 3)).alloc (.cells #[.int .i64 0, .slice (some ⟨W.heap.size + 1 + 1 + 1, 0, none⟩) 2 2, .int .i64 0, .slice none 0 0] 79)) ∧ (((((W.alloc (.cells #[.int .i64 0, .int .i64 1, .slice (some ⟨W.heap.size + 1, 0, none⟩) 1 1, .slice (some ⟨W.heap.size + 1 + 1, 0, none⟩) 1 1, .slice (some ⟨W.heap.size + 1 + 1 + 1 + 1, 0, none⟩) 2 2] 31)).alloc (.cells #[.string ⟨#[83]⟩] 9)).alloc (.cells #[.string ⟨#[120]⟩] 9)).alloc (.cells #[.int .i64 (-1), .int .i64 0] 3)).alloc (.cells #[.int .i64 0, .slice (some ⟨W.heap.size + 1 + 1 + 1, 0, none⟩) 2 2, .int .i64 0, .slice none 0 0] 79)).heap[W.heap.size]? = some (.cells #[.int .i64 0, .int .i64 1, .slice (some ⟨W.heap.size + 1, 0, none⟩) 1 1, .slice (some ⟨W.heap.size + 1 + 1, 0, none⟩) 1 1, .slice (some ⟨W.heap.size + 1 + 1 + 1 + 1, 0, none⟩) 2 2] 31 (0, 0)) := by
  obtain ⟨V1, hV1⟩ : ∃ V, V = W.alloc (.cells #[.int .i64 0, .int .i64 1, .slice (some ⟨W.heap.size + 1, 0, none⟩) 1 1, .slice (some ⟨W.heap.size + 1 + 1, 0, none⟩) 1 1, .slice (some ⟨W.heap.size + 1 + 1 + 1 + 1, 0, none⟩) 2 2] 31) := ⟨_, rfl⟩
  have s1 : V1.heap.size = W.heap.size + 1 := by rw [hV1]; simp
  have n0_1 : V1.heap[W.heap.size]? = some (.cells #[.int .i64 0, .int .i64 1, .slice (some ⟨W.heap.size + 1, 0, none⟩) 1 1, .slice (some ⟨W.heap.size + 1 + 1, 0, none⟩) 1 1, .slice (some ⟨W.heap.size + 1 + 1 + 1 + 1, 0, none⟩) 2 2] 31 (0, 0)) := by rw [hV1]; have := heap_alloc_new W (.cells #[.int .i64 0, .int .i64 1, .slice (some ⟨W.heap.size + 1, 0, none⟩) 1 1, .slice (some ⟨W.heap.size + 1 + 1, 0, none⟩) 1 1, .slice (some ⟨W.heap.size + 1 + 1 + 1 + 1, 0, none⟩) 2 2] 31); exact this
  have b1 : Below W.heap.size W V1 := by rw [hV1]; exact (Below.refl _ W).alloc (by omega) _
  obtain ⟨V2, hV2⟩ : ∃ V, V = V1.alloc (.cells #[.string ⟨#[83]⟩] 9) := ⟨_, rfl⟩
  have s2 : V2.heap.size = W.heap.size + 1 + 1 := by rw [hV2]; simp [s1]
  have n1_2 : V2.heap[W.heap.size + 1]? = some (.cells #[.string ⟨#[83]⟩] 9 (0, 0)) := by rw [hV2]; have := heap_alloc_new V1 (.cells #[.string ⟨#[83]⟩] 9); rw [s1] at this; exact this
  have n0_2 : V2.heap[W.heap.size]? = some (.cells #[.int .i64 0, .int .i64 1, .slice (some ⟨W.heap.size + 1, 0, none⟩) 1 1, .slice (some ⟨W.heap.size + 1 + 1, 0, none⟩) 1 1, .slice (some ⟨W.heap.size + 1 + 1 + 1 + 1, 0, none⟩) 2 2] 31 (0, 0)) := by rw [hV2]; exact (heap_alloc_old V1 _ (by omega)).trans n0_1
  have b2 : Below W.heap.size W V2 := by rw [hV2]; exact b1.alloc (by omega) _
  obtain ⟨V3, hV3⟩ : ∃ V, V = V2.alloc (.cells #[.string ⟨#[120]⟩] 9) := ⟨_, rfl⟩
  have s3 : V3.heap.size = W.heap.size + 1 + 1 + 1 := by rw [hV3]; simp [s2]
  have n2_3 : V3.heap[W.heap.size + 1 + 1]? = some (.cells #[.string ⟨#[120]⟩] 9 (0, 0)) := by rw [hV3]; have := heap_alloc_new V2 (.cells #[.string ⟨#[120]⟩] 9); rw [s2] at this; exact this
  have n0_3 : V3.heap[W.heap.size]? = some (.cells #[.int .i64 0, .int .i64 1, .slice (some ⟨W.heap.size + 1, 0, none⟩) 1 1, .slice (some ⟨W.heap.size + 1 + 1, 0, none⟩) 1 1, .slice (some ⟨W.heap.size + 1 + 1 + 1 + 1, 0, none⟩) 2 2] 31 (0, 0)) := by rw [hV3]; exact (heap_alloc_old V2 _ (by omega)).trans n0_2
  have n1_3 : V3.heap[W.heap.size + 1]? = some (.cells #[.string ⟨#[83]⟩] 9 (0, 0)) := by rw [hV3]; exact (heap_alloc_old V2 _ (by omega)).trans n1_2
  have b3 : Below W.heap.size W V3 := by rw [hV3]; exact b2.alloc (by omega) _
  obtain ⟨V4, hV4⟩ : ∃ V, V = V3.alloc (.cells #[.int .i64 (-1), .int .i64 0] 3) := ⟨_, rfl⟩
  have s4 : V4.heap.size = W.heap.size + 1 + 1 + 1 + 1 := by rw [hV4]; simp [s3]
  have n3_4 : V4.heap[W.heap.size + 1 + 1 + 1]? = some (.cells #[.int .i64 (-1), .int .i64 0] 3 (0, 0)) := by rw [hV4]; have := heap_alloc_new V3 (.cells #[.int .i64 (-1), .int .i64 0] 3); rw [s3] at this; exact this
  have n0_4 : V4.heap[W.heap.size]? = some (.cells #[.int .i64 0, .int .i64 1, .slice (some ⟨W.heap.size + 1, 0, none⟩) 1 1, .slice (some ⟨W.heap.size + 1 + 1, 0, none⟩) 1 1, .slice (some ⟨W.heap.size + 1 + 1 + 1 + 1, 0, none⟩) 2 2] 31 (0, 0)) := by rw [hV4]; exact (heap_alloc_old V3 _ (by omega)).trans n0_3
  have n1_4 : V4.heap[W.heap.size + 1]? = some (.cells #[.string ⟨#[83]⟩] 9 (0, 0)) := by rw [hV4]; exact (heap_alloc_old V3 _ (by omega)).trans n1_3
  have n2_4 : V4.heap[W.heap.size + 1 + 1]? = some (.cells #[.string ⟨#[120]⟩] 9 (0, 0)) := by rw [hV4]; exact (heap_alloc_old V3 _ (by omega)).trans n2_3
  have b4 : Below W.heap.size W V4 := by rw [hV4]; exact b3.alloc (by omega) _
  obtain ⟨V5, hV5⟩ : ∃ V, V = V4.alloc (.cells #[.int .i64 0, .slice (some ⟨W.heap.size + 1 + 1 + 1, 0, none⟩) 2 2, .int .i64 0, .slice none 0 0] 79) := ⟨_, rfl⟩
  have s5 : V5.heap.size = W.heap.size + 1 + 1 + 1 + 1 + 1 := by rw [hV5]; simp [s4]
  have n4_5 : V5.heap[W.heap.size + 1 + 1 + 1 + 1]? = some (.cells #[.int .i64 0, .slice (some ⟨W.heap.size + 1 + 1 + 1, 0, none⟩) 2 2, .int .i64 0, .slice none 0 0] 79 (0, 0)) := by rw [hV5]; have := heap_alloc_new V4 (.cells #[.int .i64 0, .slice (some ⟨W.heap.size + 1 + 1 + 1, 0, none⟩) 2 2, .int .i64 0, .slice none 0 0] 79); rw [s4] at this; exact this
  have n0_5 : V5.heap[W.heap.size]? = some (.cells #[.int .i64 0, .int .i64 1, .slice (some ⟨W.heap.size + 1, 0, none⟩) 1 1, .slice (some ⟨W.heap.size + 1 + 1, 0, none⟩) 1 1, .slice (some ⟨W.heap.size + 1 + 1 + 1 + 1, 0, none⟩) 2 2] 31 (0, 0)) := by rw [hV5]; exact (heap_alloc_old V4 _ (by omega)).trans n0_4
  have n1_5 : V5.heap[W.heap.size + 1]? = some (.cells #[.string ⟨#[83]⟩] 9 (0, 0)) := by rw [hV5]; exact (heap_alloc_old V4 _ (by omega)).trans n1_4
  have n2_5 : V5.heap[W.heap.size + 1 + 1]? = some (.cells #[.string ⟨#[120]⟩] 9 (0, 0)) := by rw [hV5]; exact (heap_alloc_old V4 _ (by omega)).trans n2_4
  have n3_5 : V5.heap[W.heap.size + 1 + 1 + 1]? = some (.cells #[.int .i64 (-1), .int .i64 0] 3 (0, 0)) := by rw [hV5]; exact (heap_alloc_old V4 _ (by omega)).trans n3_4
  have b5 : Below W.heap.size W V5 := by rw [hV5]; exact b4.alloc (by omega) _
  rw [← hV1, ← hV2, ← hV3, ← hV4, ← hV5]
  have c : ∀ b j cs t v, V5.heap[b]? = some (.cells cs t (0, 0)) → cs[j]? = some v → V5.cell? ⟨b, j, none⟩ = some v := fun b j cs t v h1 h2 => (cell_of_row _ _ j _ _ (0, 0) h1).trans h2
  refine ⟨⟨_, _, _, rfl, ⟨_, 1, W.heap.size + 1, rfl, Nat.le_refl _, fun _ => ⟨rfl, by omega, by omega⟩, fun i hi => ?_⟩, ⟨_, 1, W.heap.size + 1 + 1, rfl, Nat.le_refl _, fun _ => ⟨rfl, by omega, by omega⟩, fun i hi => ?_⟩, ⟨_, 2, W.heap.size + 1 + 1 + 1 + 1, fun i => if i = 0 then .slice (some ⟨W.heap.size + 1 + 1 + 1, 0, none⟩) 2 2 else .slice none 0 0, rfl, Nat.le_refl _, fun _ => ⟨rfl, by omega, by omega⟩, fun i hi => ?_⟩⟩, b5, n0_5⟩
  · have : i = 0 := by simp [c0] at hi; omega
    subst this
    exact c _ _ _ _ _ n1_5 rfl
  · have : i = 0 := by simp [c0] at hi; omega
    subst this
    exact c _ _ _ _ _ n2_5 rfl
  · have : i = 0 ∨ i = 1 := by simp [c0] at hi; omega
    rcases this with rfl | rfl
    · refine ⟨c _ _ _ _ _ n4_5 rfl, c _ _ _ _ _ n4_5 rfl, _, 2, W.heap.size + 1 + 1 + 1, rfl, Nat.le_refl _, fun _ => ⟨rfl, by omega, by omega⟩, fun i hi => ?_⟩
      have : i = 0 ∨ i = 1 := by simp [c0] at hi; omega
      rcases this with rfl | rfl
      · exact c _ _ _ _ _ n3_5 rfl
      · exact c _ _ _ _ _ n3_5 rfl
    · exact ⟨c _ _ _ _ _ n4_5 rfl, c _ _ _ _ _ n4_5 rfl, IntsAt.nil _ _ _ _⟩
theorem results_c1 {P : Program} {fn : Func} {p : Tmp} {ty : TypeId} (h : fn.results = #[.cell p ty]) (tmps : Array Value) (w : World) (g : Nat) (t : TypeId) (cs : Array Value) (fr : Nat × Nat) (d : TypeDesc)
    (hp : tmps.getD p undef = .pointer (some ⟨g, 0, none⟩)) (hg : w.heap[g]? = some (.cells cs t fr)) (hu : P.underlying ty = some d) (hd : (match d with | .struct _ | .array _ _ => true | _ => false) = true) (hi : (P.info? ty).map (·.size) = some cs.size) :
    (results fn tmps).run P w = .ok (.agg cs) w := by
  have hp' : tmps[p]?.getD undef = .pointer (some ⟨g, 0, none⟩) := by simpa using hp
  simp [results, h, hp', asAddr, run_loadVar_row w g t ty cs fr d hg hu hd hi]
set_option maxHeartbeats 4000000 in
theorem chain_any (W : World) : Calls Try.prog 32 #[] W fun e w' => ∃ v, e = .returned v ∧ PgAt (fun q => W.heap.size ≤ q) w' c0 v ∧ Below W.heap.size W w' := by
  obtain ⟨h1, h2, h3⟩ := c0_mem W
  have H1 := Lib.hid h1
  have H2 := Lib.hid h2
  have H3 := Lib.hid h3
  clear h1 h2 h3
  go_enter Try.func32, Try.ntmps32
  go_wp2
  refine bodyPost_ret (results_c1 rfl _ _ W.heap.size 31 _ (0, 0) _ rfl H3.out Try.underlying31 rfl rfl) rfl ?_
  exact ⟨_, rfl, H1.out, H2.out⟩
def t0 : Tr := .mk 0 [.mk (-1) [], .mk 1 []]
theorem t0_get : getE c0 (bs ⟨#[0, 129, 1, 1, 1]⟩) = .ok t0 := by kernel_rfl
theorem t0_check : checkB c0 t0 = true := by kernel_rfl
theorem t0_text : textE c0 t0 = ⟨#[40, 83, 32, 39, 120, 39, 32, 40, 83, 41, 41]⟩ := by kernel_rfl
theorem t0_nodes : nodesT t0 = 3 := by kernel_rfl
theorem t0_deep : deepT t0 = 2 := by kernel_rfl
def tC (v : Value) (w : World) : Prop := PgAt (fun _ => True) w c0 v
theorem tC_st : LooseD.St tC := fun v w w' h b => PgAt.under h b
theorem chain_told (W : World) : Calls Try.prog 32 #[] W fun e w' => ∃ v, e = .returned v ∧ Below W.heap.size W w' ∧ tC v w' := by
  refine (chain_any W).mono ?_
  rintro e w' ⟨v, rfl, h, b⟩
  exact ⟨v, rfl, b, h.keep (Nat.le_refl _) fun r _ _ => ⟨trivial, fun _ => rfl⟩⟩
theorem c0_fit : Fit c0 := ⟨by decide, by decide⟩
theorem c0_wr : Wr c0 := ⟨c0_fit, by decide, fun p hp => by simp [c0] at hp; rcases hp with rfl | rfl <;> decide, fun s hs => by simp [c0] at hs; subst hs; decide⟩
theorem c0_side (n : Int) : (sideT c0 n).length ≤ 1099511627776 := by
  unfold sideT c0
  split
  · decide
  · split
    · rename_i h
      have : n.toNat = 0 ∨ n.toNat = 1 := by simp at h; omega
      rcases this with e | e <;> simp [e]
    · decide
theorem t0_sm : SmT t0 := smT_of t0 (by rw [t0_nodes]; decide)
theorem t0_len : (textT c0 t0).length = 11 := by kernel_rfl
set_option maxHeartbeats 8000000 in
theorem speaks_any (W : World) : Calls Try.prog 7 #[] W fun e w' => e = .returned (.bool true) ∧ Below W.heap.size W w' := by
  have HCH := Lib.hid (chain_any W)
  go_enter Try.func7, Try.ntmps7
  go_wp2_with fail
  refine HCH.out.mono ?_
  rintro e w1 ⟨v1, rfl, hc1, b1⟩
  have HGT := Lib.hid (get_tree c0 c0_fits c0_fit c0_side _ w1 v1 ⟨#[0, 129, 1, 1, 1]⟩ (by decide) hc1)
  have HB1 := Lib.hid b1
  clear hc1 b1 HCH
  go_wp2_with fail
  refine HGT.out.mono ?_
  rintro e w2 ⟨hg, b2⟩
  rw [t0_get] at hg
  obtain ⟨x, y, rfl, ht2⟩ := hg
  obtain ⟨x1, x2, x3, x4, rfl, rfl⟩ := ht2.form
  have HB2 := Lib.hid (HB1.out.trans (b2.mono HB1.out.size))
  have HT2 := Lib.hid ht2
  clear ht2 b2 HGT
  have hbx := heap_alloc_new w2 (.cells #[.int .i64 x1, .slice x2 x3 x4] 39)
  have hbb := (Below.refl w2.heap.size w2).alloc (Nat.le_refl _) (.cells #[.int .i64 x1, .slice x2 x3 x4] 39)
  have htt := HT2.out.under hbb
  have hbs : (w2.alloc (.cells #[.int .i64 x1, .slice x2 x3 x4] 39)).heap.size = w2.heap.size + 1 := by simp
  have HBX := Lib.hid hbx
  have HBB := Lib.hid (HB2.out.trans (hbb.mono HB2.out.size))
  have HTT := Lib.hid htt
  have HBS := Lib.hid hbs
  have y0 := cell_of_row _ _ 0 _ _ (0, 0) hbx
  have y1 := cell_of_row _ _ 1 _ _ (0, 0) hbx
  clear hbx hbb htt hbs
  go_upto_region 2 with fail
  generalize hV : World.alloc w2 _ = V
  rw [hV] at HBX HBB HTT HBS y0 y1
  clear hV
  have HSZ := Lib.hid (size_any t0_sm _ V _ _ (HTT.out.keep (Q := fun r => r < V.heap.size) (Nat.le_refl _) fun r _ hr => ⟨hr, fun _ => rfl⟩) (fun r hr => hr) (by rw [t0_nodes]; decide))
  go_wp2_with fail
  refine HSZ.out.mono ?_
  rw [t0_nodes, t0_deep]
  rintro e w3 ⟨rfl, b3⟩
  have HX3 := Lib.hid ((b3.block _ (Gn.heap_lt HBX.out)).trans HBX.out)
  have HB3 := Lib.hid (HBB.out.trans (b3.mono HBB.out.size))
  have HT3 := Lib.hid (HTT.out.under b3)
  have HTC := Lib.hid (fun (w : World) (h : Below w3.heap.size w3 w) => HT3.out.under h)
  clear y0 y1 b3 HSZ
  go_upto_region 3 with fail
  refine LooseD.region_loose (fun w => Below w3.heap.size w3 w ∧ w.heap[w2.heap.size]? = some (.cells #[.int .i64 x1, .slice x2 x3 x4] 39 (0, 0))) _ _ (by kernel_rfl) (by kernel_rfl)
    (LooseD.waits (D := [[], [], [], [], [], [3], [], [], [], [], [], [], [], [], [], [], [], [], [], [17], [], []]) (by kernel_rfl))
    (LooseD.stays (ts := [none, none, none, some (.told tC), none, some (.is (.string ⟨#[40, 83, 32, 39, 120, 39, 32, 40, 83, 41, 41]⟩)), none, none, none, none, none, none, none, none, none, none, none, some (.told tC), none, some (.is (.bool true)), none, none]) (fun w w' h b => ⟨h.1.trans (b.mono h.1.size), (b.block _ (Gn.heap_lt h.2)).trans h.2⟩) (.none (.none (.none (.told tC_st (.none (.is (.none (.none (.none (.none (.none (.none (.none (.none (.none (.none (.none (.told tC_st (.none (.is (.none (.none .nil)))))))))))))))))))))))
    ⟨(Below.refl _ _).drew, HX3.out⟩ ?_
  refine LooseD.reads (.int .i64 0) rfl rfl ?_ ?_
  · intro w hw
    clear hw
    go_simp
  try simp only [Act.put, List.setIfInBounds_toArray, List.set_cons_zero, List.set_cons_succ]
  refine LooseD.reads (.bool true) rfl rfl ?_ ?_
  · intro w hw
    clear hw
    go_simp
  try simp only [Act.put, List.setIfInBounds_toArray, List.set_cons_zero, List.set_cons_succ]
  refine LooseD.reads (.bool true) rfl rfl ?_ ?_
  · intro w hw
    clear hw
    go_simp
  try simp only [Act.put, List.setIfInBounds_toArray, List.set_cons_zero, List.set_cons_succ]
  refine LooseD.calls tC 32 #[] rfl rfl ?_ (fun w hw _ => chain_told w) (fun v3 => ?_)
  · intro w hw
    clear hw
    go_simp
  try simp only [Act.put, List.setIfInBounds_toArray, List.set_cons_zero, List.set_cons_succ]
  refine LooseD.reads (.agg #[.int .i64 x1, .slice x2 x3 x4]) rfl rfl ?_ ?_
  · intro w hw
    have y0 := cell_of_row _ _ 0 _ _ (0, 0) hw.2
    have y1 := cell_of_row _ _ 1 _ _ (0, 0) hw.2
    clear hw
    go_simp
  try simp only [Act.put, List.setIfInBounds_toArray, List.set_cons_zero, List.set_cons_succ]
  refine LooseD.gives (.string ⟨#[40, 83, 32, 39, 120, 39, 32, 40, 83, 41, 41]⟩) 15 #[v3, .agg #[.int .i64 x1, .slice x2 x3 x4]] rfl rfl ?_ (fun w hw hH => by
    have := text_any c0 c0_fits c0_fit (fun _ => c0_wr) t0_sm (by rw [t0_len]; decide) _ _ w _ _ v3 (HTC.out w hw.1) (hH 3 (by decide) v3 _ rfl rfl)
    rwa [t0_text] at this) ?_
  · intro w hw
    clear hw
    go_simp
  try simp only [Act.put, List.setIfInBounds_toArray, List.set_cons_zero, List.set_cons_succ]
  refine LooseD.reads (.bool true) rfl rfl ?_ ?_
  · intro w hw
    clear hw
    go_simp
  try simp only [Act.put, List.setIfInBounds_toArray, List.set_cons_zero, List.set_cons_succ]
  refine LooseD.reads (.bool true) rfl rfl ?_ ?_
  · intro w hw
    clear hw
    go_simp
  try simp only [Act.put, List.setIfInBounds_toArray, List.set_cons_zero, List.set_cons_succ]
  refine LooseD.reads (.bool true) rfl rfl ?_ ?_
  · intro w hw
    clear hw
    go_simp
  try simp only [Act.put, List.setIfInBounds_toArray, List.set_cons_zero, List.set_cons_succ]
  refine LooseD.reads (.int .i64 3) rfl rfl ?_ ?_
  · intro w hw
    clear hw
    go_simp
  try simp only [Act.put, List.setIfInBounds_toArray, List.set_cons_zero, List.set_cons_succ]
  refine LooseD.reads (.bool true) rfl rfl ?_ ?_
  · intro w hw
    clear hw
    go_simp
  try simp only [Act.put, List.setIfInBounds_toArray, List.set_cons_zero, List.set_cons_succ]
  refine LooseD.reads (.bool true) rfl rfl ?_ ?_
  · intro w hw
    clear hw
    go_simp
  try simp only [Act.put, List.setIfInBounds_toArray, List.set_cons_zero, List.set_cons_succ]
  refine LooseD.reads (.bool true) rfl rfl ?_ ?_
  · intro w hw
    clear hw
    go_simp
  try simp only [Act.put, List.setIfInBounds_toArray, List.set_cons_zero, List.set_cons_succ]
  refine LooseD.reads (.int .i64 2) rfl rfl ?_ ?_
  · intro w hw
    clear hw
    go_simp
  try simp only [Act.put, List.setIfInBounds_toArray, List.set_cons_zero, List.set_cons_succ]
  refine LooseD.reads (.bool true) rfl rfl ?_ ?_
  · intro w hw
    clear hw
    go_simp
  try simp only [Act.put, List.setIfInBounds_toArray, List.set_cons_zero, List.set_cons_succ]
  refine LooseD.reads (.bool true) rfl rfl ?_ ?_
  · intro w hw
    clear hw
    go_simp
  try simp only [Act.put, List.setIfInBounds_toArray, List.set_cons_zero, List.set_cons_succ]
  refine LooseD.reads (.bool true) rfl rfl ?_ ?_
  · intro w hw
    clear hw
    go_simp
  try simp only [Act.put, List.setIfInBounds_toArray, List.set_cons_zero, List.set_cons_succ]
  refine LooseD.calls tC 32 #[] rfl rfl ?_ (fun w hw _ => chain_told w) (fun v17 => ?_)
  · intro w hw
    clear hw
    go_simp
  try simp only [Act.put, List.setIfInBounds_toArray, List.set_cons_zero, List.set_cons_succ]
  refine LooseD.reads (.agg #[.int .i64 x1, .slice x2 x3 x4]) rfl rfl ?_ ?_
  · intro w hw
    have y0 := cell_of_row _ _ 0 _ _ (0, 0) hw.2
    have y1 := cell_of_row _ _ 1 _ _ (0, 0) hw.2
    clear hw
    go_simp
  try simp only [Act.put, List.setIfInBounds_toArray, List.set_cons_zero, List.set_cons_succ]
  refine LooseD.gives (.bool true) 14 #[v17, .agg #[.int .i64 x1, .slice x2 x3 x4]] rfl rfl ?_ (fun w hw hH => by
    have := check_any c0 c0_fits c0_fit t0_sm _ _ w _ _ v17 (HTC.out w hw.1) (hH 17 (by decide) v17 _ rfl rfl)
    rwa [t0_check] at this) ?_
  · intro w hw
    clear hw
    go_simp
  try simp only [Act.put, List.setIfInBounds_toArray, List.set_cons_zero, List.set_cons_succ]
  refine LooseD.reads (.bool true) rfl rfl ?_ ?_
  · intro w hw
    clear hw
    go_simp
  try simp only [Act.put, List.setIfInBounds_toArray, List.set_cons_zero, List.set_cons_succ]
  refine LooseD.reads (.bool true) rfl rfl ?_ ?_
  · intro w hw
    clear hw
    go_simp
  try simp only [Act.put, List.setIfInBounds_toArray, List.set_cons_zero, List.set_cons_succ]
  refine LooseD.done ?_
  intro w5 hw5 hF
  have HB5 := Lib.hid (HB3.out.trans (hw5.1.mono HB3.out.size))
  clear hw5 hF
  go_wp2
  go_ret
  exact ⟨rfl, HB5.out⟩
end Go.Proofs.Ytdknlifpoihnmaa.Tr
