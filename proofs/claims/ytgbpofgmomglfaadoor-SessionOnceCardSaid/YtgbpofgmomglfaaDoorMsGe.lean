/-
  Layer 23: Get, over a good message's frame.
-/
import Derived.Test.YtgbpofgmomglfaaDoorMsGt
import Derived.Test.YtgbpofgmomglfaaDoorMFrSp
namespace Go.Proofs.YtgbpofgmomglfaaDoor.Ms
open Oct (pb bs)
open Crc (wr op)
open Go.RowKit
set_option maxRecDepth 100000
set_option linter.unusedSimpArgs false
set_option linter.unusedVariables false

theorem wpList_store16 {ops : Array Oper} {Q : Exit → Act → World → Prop} {a : Act} {w : World} {rest : List Oper} {o : Oper} (hgd : o.guard = none) (ty : TypeId) (x y : Operand) (ho : o.op = .store ty x y)
    (b : Nat) (c0 c1 c2 c3 c4 c5 c6 c7 c8 c9 c10 c11 c12 c13 c14 c15 z0 z1 z2 z3 z4 z5 z6 z7 z8 z9 z10 z11 z12 z13 z14 z15 : Value) (T : TypeId) (hx : a.eval x = .pointer (some ⟨b, 0, none⟩)) (hy : a.eval y = .agg #[c0, c1, c2, c3, c4, c5, c6, c7, c8, c9, c10, c11, c12, c13, c14, c15]) (hb : w.heap[b]? = some (.cells #[z0, z1, z2, z3, z4, z5, z6, z7, z8, z9, z10, z11, z12, z13, z14, z15] T (0, 0)))
    (hi : (Tryd.prog.info? ty).map (·.size) = some 16) (h1 : #[c0, c1, c2, c3, c4, c5, c6, c7, c8, c9, c10, c11, c12, c13, c14, c15].all (·.oneCell') = true)
    (h : ∀ w', w'.heap[b]? = some (.cells #[c0, c1, c2, c3, c4, c5, c6, c7, c8, c9, c10, c11, c12, c13, c14, c15] T (0, 0)) → (∀ k, b ≠ k → w'.heap[k]? = w.heap[k]?) → (∀ c, c ≤ b → Below c w w') → wpList Tryd.prog ops Q rest (a.put o.dst undef) w') :
    wpList Tryd.prog ops Q (o :: rest) a w := by
  have hw : Region.wanted o (yielded ops a.tmps) = true := by simp [Region.wanted, hgd]
  have := step_store16 (ops := ops) (K := wpList Tryd.prog ops Q rest) (Q := Q) (E := False) w hgd ty x y ho b c0 c1 c2 c3 c4 c5 c6 c7 c8 c9 c10 c11 c12 c13 c14 c15 z0 z1 z2 z3 z4 z5 z6 z7 z8 z9 z10 z11 z12 z13 z14 z15 T hx hy hb hi h1 h
  rw [if_pos hw] at this
  unfold wpList
  rw [if_pos hw]
  exact .inl this
theorem enc_len {m : Msg} {r : Int} (hg : Good m r) (a : Sh) (ha : shp a = true) : (encA m a).length ≤ if isE a = true then 591400 else 65544 := by
  have hpb := Oct.pb_len
  have hents : (m.ents.map encE).flatten.length ≤ 8216 * m.ents.length := by
    have key : ∀ (l : List Ent), (∀ y ∈ l, y.text.size ≤ 8192) → (l.map encE).flatten.length ≤ 8216 * l.length := by
      intro l
      induction l with
      | nil => intro _; simp
      | cons y l ih =>
        intro h
        have h1 := ih fun z hz => h z (List.mem_cons_of_mem _ hz)
        have h2 := h y (List.mem_cons_self ..)
        have p1 := hpb y.client
        have p2 := hpb y.number
        have p3 := hpb (y.text.size : Int)
        have hb : (bs y.text).length = y.text.size := rfl
        rw [List.map_cons, List.flatten_cons, List.length_append, List.length_cons]
        have : (encE y).length ≤ 8216 := by
          unfold encE qT
          simp only [List.length_append]
          omega
        omega
    exact key _ fun y hy => (hg.ej y hy).2
  have hen := hg.en
  cases a with
  | nums js =>
    unfold shp at ha
    simp only [Bool.and_eq_true, decide_eq_true_eq] at ha
    have : ∀ l : List Nat, ((l.map fun j => pb (numAt m j)).flatten).length ≤ 8 * l.length := by
      intro l
      induction l with
      | nil => simp
      | cons j l ih =>
        have := hpb (numAt m j)
        rw [List.map_cons, List.flatten_cons, List.length_append, List.length_cons]
        omega
    have := this js
    show ((js.map fun j => pb (numAt m j)).flatten).length ≤ 65544
    omega
  | known =>
    have hk := hg.kn
    have : ∀ l : List Int, ((l.map pb).flatten).length ≤ 8 * l.length := by
      intro l
      induction l with
      | nil => simp
      | cons j l ih =>
        have := hpb j
        rw [List.map_cons, List.flatten_cons, List.length_append, List.length_cons]
        omega
    have := this m.known
    show ((m.known.map pb).flatten).length ≤ 65544
    omega
  | text j =>
    have h : (txtAt m j).size ≤ 65536 := by
      unfold txtAt
      split
      · exact Nat.le_trans hg.text (by decide)
      · exact hg.state
    have hb : (bs (txtAt m j)).length = (txtAt m j).size := rfl
    have p := hpb ((txtAt m j).size : Int)
    show (qT (txtAt m j)).length ≤ 65544
    unfold qT
    rw [List.length_append]
    omega
  | yes => show 1 ≤ 65544; omega
  | entry =>
    show (m.ents.map encE).flatten.length ≤ 591400
    omega
  | entries =>
    have p := hpb (m.ents.length : Int)
    show (pb m.ents.length ++ (m.ents.map encE).flatten).length ≤ 591400
    rw [List.length_append]
    omega
theorem encs_len {m : Msg} {r : Int} (hg : Good m r) : ∀ acts : List Sh, acts.all shp = true → nod acts = true → ((acts.map (encA m)).flatten).length ≤ 65544 * acts.length + if acts.any isE = true then 525856 else 0
  | [], _, _ => by simp
  | a :: l, h, hn => by
    rw [List.all_cons, Bool.and_eq_true] at h
    unfold nod at hn
    simp only [Bool.and_eq_true, Bool.or_eq_true, Bool.not_eq_true'] at hn
    have ih := encs_len hg l h.2 hn.2
    have ha := enc_len hg a h.1
    rw [List.map_cons, List.flatten_cons, List.length_append, List.length_cons, List.any_cons]
    cases hE : isE a with
    | true =>
      rw [hE] at ha
      have hl : l.any isE = false := by
        rcases hn.1.2 with h2 | h2
        · exact absurd (hE.symm.trans h2) (by decide)
        · exact h2
      rw [hl] at ih
      simp only [Bool.true_or, if_true, Bool.false_eq_true, if_false] at ha ih ⊢
      omega
    | false =>
      rw [hE] at ha
      simp only [Bool.false_or, Bool.false_eq_true, if_false] at ha ⊢
      omega
theorem show_len (k : Int) (f : Bool) (h1 : 1 ≤ k) (h2 : k ≤ 12) : (showA k f).length ≤ 7 := by
  by_cases k1 : k = 1
  · subst k1
    cases f <;> decide
  by_cases k2 : k = 2
  · subst k2
    cases f <;> decide
  by_cases k3 : k = 3
  · subst k3
    cases f <;> decide
  by_cases k4 : k = 4
  · subst k4
    cases f <;> decide
  by_cases k5 : k = 5
  · subst k5
    cases f <;> decide
  by_cases k6 : k = 6
  · subst k6
    cases f <;> decide
  by_cases k7 : k = 7
  · subst k7
    cases f <;> decide
  by_cases k8 : k = 8
  · subst k8
    cases f <;> decide
  by_cases k9 : k = 9
  · subst k9
    cases f <;> decide
  by_cases k11 : k = 11
  · subst k11
    cases f <;> decide
  by_cases k12 : k = 12
  · subst k12
    cases f <;> decide
  have k10 : k = 10 := by omega
  subst k10
  cases f <;> decide
theorem body_len {m : Msg} {r : Int} (hg : Good m r) : (bodyM m).length ≤ 1048576 := by
  have h1 := encs_len hg _ (show_shp m.kind m.full).1 (acts_nod m.kind m.full hg.k1 hg.k12).1
  have h2 := show_len m.kind m.full hg.k1 hg.k12
  have h3 := Oct.pb_len m.kind
  unfold bodyM
  rw [List.length_append]
  split at h1 <;> omega
/-- A good message's frame. -/
theorem put_good {m : Msg} {r : Int} (h : goodM m r = true) : putM m r = ⟨(wr (bodyM m)).toArray⟩ := by
  unfold putM
  rw [body_some (good_of h), if_pos ⟨h, rfl⟩]
  rfl
theorem put_bad {m : Msg} {r : Int} (h : goodM m r = false) : putM m r = ⟨#[]⟩ := by
  unfold putM
  rw [if_neg (by rw [h]; simp), if_neg (by rw [h]; simp)]
set_option maxHeartbeats 16000000 in
theorem get_good (m : Msg) (r : Int) (hgd : goodM m r = true) (w : World) (hst : Crc.Steps w) (h0 : 0 < w.heap.size) :
    Calls Tryd.prog 17 #[.string ⟨(wr (bodyM m)).toArray⟩, .int .i64 r] w (Told m w) := by
  have hg := good_of hgd
  have hbl := body_len hg
  have hwl := Crc.wr_le (bodyM m)
  obtain ⟨fr, hfr⟩ : ∃ s : ByteArray, s = ⟨(wr (bodyM m)).toArray⟩ := ⟨_, rfl⟩
  obtain ⟨t, ht⟩ : ∃ s : ByteArray, s = ⟨(bodyM m).toArray⟩ := ⟨_, rfl⟩
  have htb : bs t = bodyM m := by rw [ht]
  have hts : t.size ≤ 9223372036854775807 := by rw [ht]; show (bodyM m).length ≤ _; omega
  have hfs : fr.size ≤ 9223372036854775807 := by rw [hfr]; show (wr (bodyM m)).length ≤ _; omega
  rw [← hfr]
  have HOP := Lib.hid (fun (w : World) (hst : Crc.Steps w) => show Calls Tryd.prog 33 #[.string fr] w (fun e w' => e = .returned (.tuple #[.string t, .int .i64 0]) ∧ Below w.heap.size w w') by
    have h := Crc.open_any fr w hfs hst
    rw [hfr, Crc.bs_mk, Crc.op_wr _ hbl] at h
    rw [hfr, ht]
    exact h)
  have hgr : groupB r = true := by
    unfold groupB
    rcases hg.grp with h | h | h <;> subst h <;> rfl
  have HGR := Lib.hid (fun w => show Calls Tryd.prog 32 #[.int .i64 r] w (Says true w) by rw [← hgr]; exact group_any r w)
  have HRD := Lib.hid (fun w => read_good m r hgd t htb hts w)
  have HST := Lib.hid (fun (w' : World) (b : Below w.heap.size w w') => hst.of b h0)
  obtain ⟨W0, hW0⟩ : ∃ W, W = w.alloc (.cells #[.int .i64 0, .int .i64 0, .int .i64 0, .slice none 0 0, .int .i64 0, .int .i64 0, .int .i64 0, .int .i64 0, .int .i64 0, .int .i64 0, .int .i64 0, .string ⟨#[]⟩, .bool false, .int .i64 0, .string ⟨#[]⟩, .slice none 0 0] 53) := ⟨_, rfl⟩
  have hb0 : Below w.heap.size w W0 := by rw [hW0]; exact (Below.refl _ w).alloc (Nat.le_refl _) _
  have hq0 : W0.heap[w.heap.size]? = some (.cells #[.int .i64 0, .int .i64 0, .int .i64 0, .slice none 0 0, .int .i64 0, .int .i64 0, .int .i64 0, .int .i64 0, .int .i64 0, .int .i64 0, .int .i64 0, .string ⟨#[]⟩, .bool false, .int .i64 0, .string ⟨#[]⟩, .slice none 0 0] 53 (0, 0)) := by rw [hW0]; exact heap_alloc_new w _
  obtain ⟨q0, hq⟩ : ∃ q, q = w.heap.size := ⟨_, rfl⟩
  rw [← hq] at hq0
  have HW0 := Lib.hid hW0
  have HB0 := Lib.hid hb0
  have HQ0 := Lib.hid hq0
  have HQ := Lib.hid hq
  clear hgd hg hbl hwl hfr ht htb hts hfs hgr hst h0 hW0 hb0 hq0 hq
  go_enter Tryd.func17, Tryd.ntmps17
  go_upto_region 1 with fail
  rw [← HW0.out, ← HQ.out]
  go_wp2_with fail
  refine (HGR.out _).mono ?_
  rintro e w1 ⟨rfl, b1⟩
  have HB1 := Lib.hid (HB0.out.trans (b1.mono HB0.out.size))
  have HQ1 := Lib.hid ((b1.block _ (Gn.heap_lt HQ0.out)).trans HQ0.out)
  clear b1
  go_wp2_with fail
  refine (HOP.out _ (HST.out _ HB1.out)).mono ?_
  rintro e w2 ⟨rfl, b2⟩
  have HB2 := Lib.hid (HB1.out.trans (b2.mono HB1.out.size))
  have HQ2 := Lib.hid ((b2.block _ (Gn.heap_lt HQ1.out)).trans HQ1.out)
  clear b2
  go_wp2_with fail
  refine (HRD.out _).mono ?_
  rintro e w3 ⟨A, cap, B, cap2, rfl, hi, he, b3⟩
  have HB3 := Lib.hid (HB2.out.trans (b3.mono HB2.out.size))
  have HQ3 := Lib.hid ((b3.block _ (Gn.heap_lt HQ2.out)).trans HQ2.out)
  clear b3
  obtain ⟨W4, hW4⟩ : ∃ W, W = w3.alloc (.cells (cellsM m A cap B cap2) 53) := ⟨_, rfl⟩
  obtain ⟨q4, hq4⟩ : ∃ q, q = w3.heap.size := ⟨_, rfl⟩
  have hb4 : Below w3.heap.size w3 W4 := by rw [hW4]; exact (Below.refl _ _).alloc (Nat.le_refl _) _
  have hx4 : W4.heap[q4]? = some (.cells (cellsM m A cap B cap2) 53 (0, 0)) := by rw [hW4, hq4]; exact heap_alloc_new _ _
  have HB4 := Lib.hid (HB3.out.trans (hb4.mono HB3.out.size))
  have HQ4 := Lib.hid ((hb4.block _ (Gn.heap_lt HQ3.out)).trans HQ3.out)
  have HX4 := Lib.hid hx4
  have HI := Lib.hid (own_same hi fun r cs fr hr => hb4.block _ (Gn.heap_lt hr))
  have HE := Lib.hid (own_same he fun r cs fr hr => hb4.block _ (Gn.heap_lt hr))
  have HLD := Lib.hid (show (loadVar 53 ⟨q4, 0, none⟩).run Tryd.prog W4 = .ok (.agg (cellsM m A cap B cap2)) W4 from run_loadVar_row W4 _ _ 53 _ _ _ hx4 Tryd.underlying53 rfl (by kernel_rfl))
  have HW4 := Lib.hid (show W4 = w3.alloc (.cells #[.int .i64 m.kind, .int .i64 m.frm, .int .i64 m.born, .slice A m.known.length cap, .int .i64 m.view, .int .i64 m.last, .int .i64 m.op, .int .i64 m.commit, .int .i64 m.client, .int .i64 m.number, .int .i64 m.nonce, .string m.text, .bool m.full, .int .i64 m.base, .string m.state, .slice B m.ents.length cap2] 53) from hW4)
  have HQ4E := Lib.hid hq4
  clear hW4 hq4 hb4 hx4 hi he
  unfold cellsM
  go_upto_region 9 with fail
  rw [← HW4.out, ← HQ4E.out]
  apply wp_region_lit
  refine wpList_load (by rfl) 53 _ rfl _ rfl _ HLD.out ?_
  simp only [Act.put, List.getElem_toArray, List.getElem_cons_zero, List.getElem_cons_succ, List.setIfInBounds_toArray, List.set_cons_zero, List.set_cons_succ]
  refine wpList_store16 (by rfl) 53 (.tmp 4) (.tmp 32) (by rfl) q0 (.int .i64 m.kind) (.int .i64 m.frm) (.int .i64 m.born) (.slice A m.known.length cap) (.int .i64 m.view) (.int .i64 m.last) (.int .i64 m.op) (.int .i64 m.commit) (.int .i64 m.client) (.int .i64 m.number) (.int .i64 m.nonce) (.string m.text) (.bool m.full) (.int .i64 m.base) (.string m.state) (.slice B m.ents.length cap2) _ _ _ _ _ _ _ _ _ _ _ _ _ _ _ _ _ (by simp [Act.eval]) (by simp [Act.eval]; rfl) HQ4.out (by kernel_rfl) (by simp [Value.oneCell']) ?_
  intro w9 hst hoth hbel
  have HS9 := Lib.hid hst
  have HO9 := Lib.hid hoth
  have HL9 := Lib.hid hbel
  clear hst hoth hbel
  simp only [Act.put]
  go_wp2_with fail
  refine bodyPost_ret (results_cell_tmp (P := Tryd.prog) rfl _ _ q0 53 _ (0, 0) _ (by rfl) HS9.out Tryd.underlying53 rfl (by kernel_rfl)) rfl ?_
  have hwq : w.heap.size ≤ q0 := by rw [HQ.out]; exact Nat.le_refl _
  have hkey : ∀ (e : TypeId), e ≠ 53 → ∀ (r : Nat) (cs : Array Value) (fr : Nat × Nat), W4.heap[r]? = some (Obj.cells cs e fr) → w9.heap[r]? = W4.heap[r]? := fun e he r cs fr hr => HO9.out r (fun hh => by
    rw [← hh, HQ4.out] at hr
    injection hr with hr
    injection hr with _ h2
    exact he h2.symm)
  have hle := HB2.out.size
  exact ⟨A, cap, B, cap2, rfl, own_base (own_same HI.out (hkey _ (by decide))) hle, own_base (own_same HE.out (hkey _ (by decide))) hle, HB4.out.trans (HL9.out _ hwq)⟩
end Go.Proofs.YtgbpofgmomglfaaDoor.Ms
