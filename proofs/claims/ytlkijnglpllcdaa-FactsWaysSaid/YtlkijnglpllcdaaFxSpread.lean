/-
  The walk of spread.
-/
import Derived.Test.YtlkijnglpllcdaaFxCome
import Derived.Deep.AppendLies
namespace Go.Proofs.Ytlkijnglpllcdaa.Fx
open Go.RowKit
set_option maxRecDepth 100000
set_option linter.unusedSimpArgs false

theorem wpList_append_ints {ops : Array Oper} {rest : List Oper} {o : Oper} {a : Act} {Q : Exit → Act → World → Prop} (w : World) (hgd : o.guard = none) (s x : Operand)
    (ho : o.op = .call { callee := .builtin .append, args := #[s, x], argTypes := #[22, 22] })
    (base : Nat) (v : Value) (n : Nat) (xs : List Value) (hs : a.eval s = v) (hown : w.ownsRow base 3 1 v n xs) (P : Nat → Prop) (l : List Int) (u : Value) (hx : a.eval x = u) (hi : IntsAt P w l u) (hm : n + l.length ≤ 8796093022208) (hb : base ≤ w.heap.size)
    (h : ∀ A c w', w'.ownsRow base 3 1 (.slice A (n + l.length) c) (n + l.length) (xs ++ l.map (Value.int .i64)) → w.grownBy w' v.ownBlock → wpList Try.prog ops Q rest (a.put o.dst (.slice A (n + l.length) c)) w') : wpList Try.prog ops Q (o :: rest) a w := by
  refine wpList_plain hgd fun K hK => ?_
  obtain ⟨v', w', hr, h2, h3, _⟩ := run_append_ints o.type w base v n xs hown P l u hi hm hb
  obtain ⟨A, c, rfl⟩ := Gn.slice_of h2
  unfold Oper.wp execOp
  simp only [ho, resolve, invoke, builtin, Sem.run_bind, Sem.run_pure, Result.andThen_ok, List.map_toArray, List.map_cons, List.map_nil, hs, hx, hr]
  exact hK _ _ (h A c w' h2 h3)
theorem zero_unit (w : World) : (zeroValue 62).run Try.prog w = .ok (.agg #[]) w := by kernel_rfl

/-- Within spread: what is met, what is still to be looked at. -/
structure SpreadAt (S : Nat → List Int) (l : List Int) (n K0 : Nat) (W0 : World) (M T : List Int) (v : Value) (W : World) : Prop where
  map : W.ownsMap Try.prog 3 unitElem W0.heap.size M.length (setD M)
  row : W.ownsRow (W0.heap.size + 1) 3 1 v T.length (T.map (Value.int .i64))
  below : Below W0.heap.size W0 W
  nodup : M.Nodup
  from_ : ∀ x ∈ l, x ∈ M ∨ x ∈ T
  closed : ∀ a : Nat, (a : Int) ∈ M → ∀ y ∈ S a, y ∈ M ∨ y ∈ T
  come : ∀ x, x ∈ M ∨ x ∈ T → Come S l x
  known : ∀ x ∈ T, -1048577 ≤ x ∧ x < (n : Int)
  room : M.length + T.length + leftD S n (setD M) ≤ K0
/-- What one comes to is told. -/
def Spreads (S : Nat → List Int) (l : List Int) (K0 : Nat) (W : World) (e : Ending) (w' : World) : Prop :=
  ∃ M, e = .returned (.map (some W.heap.size)) ∧ w'.ownsMap Try.prog 3 unitElem W.heap.size K0 (setD M) ∧ M.Nodup ∧ (∀ x, x ∈ M ↔ Come S l x) ∧ Below W.heap.size W w'

theorem SpreadAt.alloc {S : Nat → List Int} {l : List Int} {n K0 : Nat} {W0 W : World} {M T : List Int} {v : Value} (h : SpreadAt S l n K0 W0 M T v W) (o : Obj) : SpreadAt S l n K0 W0 M T v (W.alloc o) :=
  ⟨h.map.alloc o, own_of_block h.row fun _ hg => heap_alloc_old W o (own_base h.row hg).2, h.below.alloc h.below.size o, h.nodup, h.from_, h.closed, h.come, h.known, h.room⟩
theorem own_cap {W : World} {base g c n : Nat} {e : TypeId} {xs : List Value} (h : W.ownsRow base e 1 (.slice (some ⟨g, 0, none⟩) n c) n xs) : n ≤ c := by
  rcases h.2 with ⟨h2, _⟩ | ⟨g2, cp, cur, h2, h3, h4, h5, _⟩
  · injection h2 with h2; cases h2
  · injection h2 with _ _ e3
    omega
/-- The last one was met already. -/
theorem SpreadAt.skip {S : Nat → List Int} {l : List Int} {n K0 : Nat} {W0 W : World} {M T : List Int} {x : Int} {g c : Nat} (h : SpreadAt S l n K0 W0 M (T ++ [x]) (.slice (some ⟨g, 0, none⟩) (T.length + 1) c) W) (hx : x ∈ M) : SpreadAt S l n K0 W0 M T (.slice (some ⟨g, 0, none⟩) T.length c) W := by
  have e : (T ++ [x]).length = T.length + 1 := by simp
  have hr := h.row
  rw [e, List.map_append] at hr
  have hmem : ∀ y, y ∈ M ∨ y ∈ T ++ [x] → y ∈ M ∨ y ∈ T := fun y hy => by
    rcases hy with hy | hy
    · exact .inl hy
    · rcases List.mem_append.1 hy with hy | hy
      · exact .inr hy
      · rw [List.mem_singleton] at hy; subst hy; exact .inl hx
  exact ⟨h.map, own_pop hr, h.below, h.nodup, fun y hy => hmem y (h.from_ y hy), fun a ha y hy => hmem y (h.closed a ha y hy), fun y hy => h.come y (hy.imp id fun h => List.mem_append.2 (.inl h)), fun y hy => h.known y (List.mem_append.2 (.inl hy)), by have := h.room; rw [e] at this; omega⟩
/-- The last one is met now; what one goes to from it, if anything, comes. -/
theorem SpreadAt.meet {S : Nat → List Int} {l : List Int} {n K0 : Nat} {W0 W w2 W' : World} {M T : List Int} {x : Int} {v v' : Value} {L : List Int} (h : SpreadAt S l n K0 W0 M (T ++ [x]) v W) (hx : x ∉ M)
    (hm : w2.ownsMap Try.prog 3 unitElem W0.heap.size (M.length + 1) ((setD M).put (.int .i64 x) (.agg []))) (hw : W'.ownsMap Try.prog 3 unitElem W0.heap.size (M.length + 1) ((setD M).put (.int .i64 x) (.agg [])))
    (hr : W'.ownsRow (W0.heap.size + 1) 3 1 v' (T.length + L.length) ((T ++ L).map (Value.int .i64))) (hb : Below W0.heap.size W0 W') (hL : (∃ a : Nat, x = (a : Int) ∧ a < n ∧ L = S a) ∨ (x < 0 ∧ L = [])) (hk : ∀ y ∈ L, -1048577 ≤ y ∧ y < (n : Int)) :
    SpreadAt S l n K0 W0 (M ++ [x]) (T ++ L) v' W' ∧ (T.length + L.length) + leftD S n (setD (M ++ [x])) < (T.length + 1) + leftD S n (setD M) := by
  have hhas : Maps.has (setD M) (.int .i64 x) = false := by rw [setD_has, decide_eq_false hx]
  have hroom : L.length + leftD S n (setD (M ++ [x])) = leftD S n (setD M) := by
    rw [setD_snoc]
    rcases hL with ⟨a, rfl, ha, rfl⟩ | ⟨h0, rfl⟩
    · have := leftD_put S (setD M) (setD_tidy M) a hhas n
      rw [if_pos ha] at this
      omega
    · rw [leftD_neg S _ x h0]; simp
  have hmem : ∀ y, y ∈ M ∨ y ∈ T ++ [x] → y ∈ M ++ [x] ∨ y ∈ T ++ L := fun y hy => by
    rcases hy with hy | hy
    · exact .inl (List.mem_append.2 (.inl hy))
    · rcases List.mem_append.1 hy with hy | hy
      · exact .inr (List.mem_append.2 (.inl hy))
      · exact .inl (List.mem_append.2 (.inr hy))
  refine ⟨⟨by rw [List.length_append, setD_snoc]; exact hw, by rw [List.length_append]; exact hr, hb, ?_, fun y hy => hmem y (h.from_ y hy), fun a ha y hy => ?_, fun y hy => ?_, fun y hy => ?_, ?_⟩, by omega⟩
  · rw [List.nodup_append]
    refine ⟨h.nodup, by simp, fun a ha b hb => ?_⟩
    rw [List.mem_singleton] at hb
    subst hb
    exact fun e => hx (e ▸ ha)
  · rcases List.mem_append.1 ha with ha | ha
    · exact hmem y (h.closed a ha y hy)
    · rw [List.mem_singleton] at ha
      rcases hL with ⟨a', e, _, rfl⟩ | ⟨h0, _⟩
      · have : a = a' := by omega
        subst this
        exact .inr (List.mem_append.2 (.inr hy))
      · omega
  · have hx2 := h.come x (.inr (by simp))
    rcases hy with hy | hy
    · rcases List.mem_append.1 hy with hy | hy
      · exact h.come y (.inl hy)
      · rw [List.mem_singleton] at hy; subst hy; exact hx2
    · rcases List.mem_append.1 hy with hy | hy
      · exact h.come y (.inr (List.mem_append.2 (.inl hy)))
      · rcases hL with ⟨a, rfl, _, rfl⟩ | ⟨_, rfl⟩
        · exact .step a y hx2 hy
        · cases hy
  · rcases List.mem_append.1 hy with hy | hy
    · exact h.known y (List.mem_append.2 (.inl hy))
    · exact hk y hy
  · have := h.room
    simp only [List.length_append, List.length_singleton] at this ⊢
    omega

set_option maxHeartbeats 8000000 in
theorem spread_any (B G n : Nat) (S : Nat → List Int) (f : Nat → Value) (l : List Int) (K0 : Nat) (hn : n ≤ 1048576) (hS : ∀ a, a < n → ∀ y ∈ S a, -1048577 ≤ y ∧ y < (n : Int)) (hl : ∀ x ∈ l, -1048577 ≤ x ∧ x < (n : Int)) (hK : l.length + leftD S n (.map []) ≤ K0) (hK2 : K0 ≤ 4398046511104) (P : Nat → Prop) (W : World) (v : Value) (hr : RowsAt B G n S f W) (h : IntsAt P W l v) :
    Calls Try.prog 32 #[.slice (some ⟨G, 0, none⟩) n n, v] W (Spreads S l K0 W) := by
  obtain ⟨Al, cl, rfl⟩ := h.form
  obtain ⟨m, hm⟩ : ∃ m, m = l.length := ⟨_, rfl⟩
  rw [← hm] at h ⊢
  have HM := Lib.hid hm
  have HR := Lib.hid hr
  have HI := Lib.hid (h.under ((Below.refl W.heap.size W).alloc (Nat.le_refl _) (.map #[] 0)))
  have HS := Lib.hid hS
  have HL := Lib.hid hl
  have HK := Lib.hid hK
  have HB0 := Lib.hid ((Below.refl W.heap.size W).alloc (Nat.le_refl _) (.map #[] 0))
  have HMD := Lib.hid (World.ownsMap_made W Try.prog 3 (unitElem (H := Unit)))
  have hmm := @run_makeMap Try.prog
  have HM2 := Lib.hid (show (0 : Nat) + l.length ≤ 8796093022208 by omega)
  clear hr h hS hl hK hm
  go_enter Try.func32, Try.ntmps32
  go_wp2_with (at_builtin; refine wpList_append_ints _ rfl _ _ rfl (W.heap.size + 1) (.slice none 0 0) 0 [] rfl (World.ownsRow_nil _ _ _ _) P l _ rfl HI.out HM2.out (by simp) ?_; intro A1 c1 w1 hown1 hgrow1; rw [Nat.zero_add, List.nil_append] at hown1; rw [Nat.zero_add]; have HO1 := Lib.hid hown1; have HG1 := Lib.hid hgrow1; clear hown1 hgrow1)
  go_loopw [6] (fun v wr => ∃ M T, SpreadAt S l n K0 W M T v wr) (fun v wr => lenV v + leftD S n (mapD wr W.heap.size))
  case atStart =>
    exact ⟨[], l, HMD.out.kept HG1.out (by simp [Value.ownBlock]), HO1.out, HB0.out.grown HG1.out HB0.out.size (fun j e => by simp [Value.ownBlock] at e), List.nodup_nil, fun x hx => .inr hx, fun a ha => absurd ha (by simp), fun x hx => .base x (hx.resolve_left (by simp)), HL.out, by have := HK.out; simpa [setD] using this⟩
  case round =>
    obtain ⟨M, T, hA⟩ := hrel
    rcases List.eq_nil_or_concat T with rfl | ⟨T', x, rfl⟩
    · obtain ⟨Au, cu, rfl⟩ := Gn.slice_of hA.row
      have HA := Lib.hid hA
      clear hA
      go_wp2
      go_ret
      refine ⟨M, rfl, HA.out.map.mono (by have := HA.out.room; omega), HA.out.nodup, fun y => ⟨fun hy => HA.out.come y (.inl hy), fun hy => ?_⟩, HA.out.below⟩
      induction hy with
      | base x hx => exact (HA.out.from_ x hx).resolve_right (by simp)
      | step a y _ hy ih => exact (HA.out.closed a ih y hy).resolve_right (by simp)
    · rw [List.concat_eq_append] at hA
      have e : (T' ++ [x]).length = T'.length + 1 := by simp
      have hrow := hA.row
      rw [e, List.map_append] at hrow
      obtain ⟨g, cu, rfl, hg1, hg2⟩ := hrow.form (by omega)
      have xc : wr.cell? ⟨g, T'.length, none⟩ = some (.int .i64 x) := by
        have := hrow.cells (g := g) rfl T'.length (.int .i64 x) (by simp)
        rwa [Gn.add_row] at this
      obtain ⟨k1, k2⟩ := hA.known x (by simp)
      have hkey := Maps.keyOf_int_mk (P := Try.prog) Try.underlying3 (show (Lit.int .i64 x).wf = true from WalkArith.wf_i64 (by omega))
      have HMS := Lib.hid (mapD_is hA.map)
      have HPOP := Lib.hid (own_pop hrow)
      have htl : T'.length ≤ 4398046511104 := by have := hA.room; rw [e] at this; omega
      have hcu := own_cap hrow
      by_cases hx : x ∈ M
      · have HAS := Lib.hid (show Maps.has (setD M) (.int .i64 x) = true by rw [setD_has, decide_eq_true hx])
        have H2 := Lib.hid ((hA.skip hx).alloc (.cells #[] 62))
        have HMS2 := Lib.hid (mapD_is (hA.map.alloc (.cells #[] 62)))
        have HMAP := Lib.hid hA.map
        obtain ⟨t, ht⟩ : ∃ t, t = T'.length := ⟨_, rfl⟩
        rw [← ht] at xc H2 htl hcu
        rw [← ht]
        have hc2 : t ≤ cu := by omega
        clear hA hrow HPOP hx e ht
        go_wp2_with (at_lookup; refine wpList_lookup_own_unit _ rfl _ _ 60 rfl 3 62 (Maps.int_keyed Try.underlying3) Try.underlying60 (zero_unit _) W.heap.size M.length _ rfl HMAP.out _ _ rfl hkey ?_; rw [HAS.out])
        go_roundw
        case rel => exact ⟨M, T', H2.out⟩
        case measure =>
          rw [HMS.out, HMS2.out]
          simp [lenV]
      · have HAS := Lib.hid (show Maps.has (setD M) (.int .i64 x) = false by rw [setD_has, decide_eq_false hx])
        have HMAP := Lib.hid hA.map
        have hml : M.length < maxLen := by have := hA.room; unfold maxLen; omega
        have HA := Lib.hid hA
        have HX := Lib.hid hx
        obtain ⟨t, ht⟩ : ∃ t, t = T'.length := ⟨_, rfl⟩
        rw [← ht] at xc htl hcu HPOP
        rw [← ht]
        have HT := Lib.hid ht
        have hc2 : t ≤ cu := by omega
        have hgN : W.heap.size ≠ g := by omega
        rcases (show x < 0 ∨ ∃ a : Nat, x = (a : Int) ∧ a < n from by
          by_cases h0 : x < 0
          · exact .inl h0
          · exact .inr ⟨x.toNat, by omega, by omega⟩) with h0 | ⟨a, rfl, ha⟩
        · clear hA hrow hx e ht
          go_wp2_with (first
            | (at_lookup; refine wpList_lookup_own_unit _ rfl _ _ 60 rfl 3 62 (Maps.int_keyed Try.underlying3) Try.underlying60 (zero_unit _) W.heap.size M.length _ rfl HMAP.out _ _ rfl hkey ?_; rw [HAS.out])
            | (at_mapUpdate; refine wpList_mapUpdate_in _ rfl _ _ _ 60 rfl 3 62 (Maps.int_keyed Try.underlying3) Try.underlying60 unitElem W.heap.size M.length (setD M) rfl (HMAP.out.alloc _) hml _ (.agg #[]) (.int .i64 x) rfl rfl hkey (.agg []) [] unitElem_mk ?_; intro w2 hown2 hturn2; have HM2' := Lib.hid hown2; have HT2 := Lib.hid hturn2.grown; clear hown2 hturn2))
          have hrow2 := own_of_block (own_of_block HPOP.out fun _ hg => heap_alloc_old wr _ (own_base HPOP.out hg).2) fun g' hg => HT2.out.block g' (by have := (own_base HPOP.out hg).2; simp; omega) (fun e => by have := (own_base HPOP.out hg).1; cases e; omega)
          have hb2 := (HA.out.below.alloc HA.out.below.size _).grown HT2.out (by have := HA.out.below.size; simp; omega) (fun j e => by cases e; exact Nat.le_refl _)
          obtain ⟨h3, h4⟩ := HA.out.meet (L := []) HX.out HM2'.out HM2'.out (v' := .slice (some ⟨g, 0, none⟩) t cu) (by rw [← HT.out, List.append_nil]; exact hrow2) hb2 (.inr ⟨h0, rfl⟩) (fun y hy => by cases hy)
          have H3 := Lib.hid h3
          have H4 := Lib.hid h4
          clear h3 h4 hrow2 hb2
          go_roundw
          case rel => exact ⟨M ++ [x], T' ++ [], H3.out⟩
          case measure =>
            rw [HMS.out, mapD_is H3.out.map]
            have := H4.out
            simp only [List.length_nil] at this
            show t + _ < t + 1 + _
            have := HT.out
            omega
        · have hai : (0 : Int) ≤ (a : Int) := by omega
          have han : (a : Int) < (n : Int) := by omega
          have HLN := Lib.hid (show t + (S a).length ≤ 8796093022208 by
            have h5 := leftD_put S (setD M) (setD_tidy M) a HAS.out n
            rw [if_pos ha] at h5
            have h6 := hA.room
            omega)
          clear hA hrow hx e ht
          go_wp2_with (first
            | (at_lookup; refine wpList_lookup_own_unit _ rfl _ _ 60 rfl 3 62 (Maps.int_keyed Try.underlying3) Try.underlying60 (zero_unit _) W.heap.size M.length _ rfl HMAP.out _ _ rfl hkey ?_; rw [HAS.out])
            | (at_mapUpdate; refine wpList_mapUpdate_in _ rfl _ _ _ 60 rfl 3 62 (Maps.int_keyed Try.underlying3) Try.underlying60 unitElem W.heap.size M.length (setD M) rfl (HMAP.out.alloc _) hml _ (.agg #[]) (.int .i64 (a : Int)) rfl rfl hkey (.agg []) [] unitElem_mk ?_; intro w2 hown2 hturn2; have HM2' := Lib.hid hown2; have HT2 := Lib.hid hturn2.grown; clear hown2 hturn2; have HR2 := Lib.hid (own_of_block (own_of_block HPOP.out fun _ hg => heap_alloc_old wr _ (own_base HPOP.out hg).2) fun g' hg => HT2.out.block g' (by have := (own_base HPOP.out hg).2; simp; omega) (fun e => by have := (own_base HPOP.out hg).1; cases e; omega)); have HB2 := Lib.hid ((HA.out.below.alloc HA.out.below.size _).grown HT2.out (by have := HA.out.below.size; simp; omega) (fun j e => by cases e; exact Nat.le_refl _)); have y2 := (HR.out.below HB2.out).block.cell ha)
            | (at_builtin; refine wpList_append_ints _ rfl _ _ rfl (W.heap.size + 1) (.slice (some ⟨g, 0, none⟩) t cu) t _ rfl HR2.out (fun b => G + 1 ≤ b) (S a) (f a) rfl (IntsAt.of_own ((HR.out.below HB2.out).own a ha)) HLN.out (by have := HT2.out.size; simp at this; omega) ?_; intro A4 c4 w4 hown4 hgrow4; have HO4 := Lib.hid hown4; have HG4 := Lib.hid hgrow4; clear hown4 hgrow4))
          have hrow4 := HO4.out
          rw [← List.map_append] at hrow4
          have hb4 := HB2.out.grown HG4.out (by have := HT2.out.size; simp at this; omega) (fun j e => by cases e; show W.heap.size ≤ g; omega)
          obtain ⟨h3, h4⟩ := HA.out.meet (L := S a) HX.out HM2'.out (HM2'.out.kept HG4.out (fun e => by injection e with e; exact hgN e)) (v' := .slice A4 (t + (S a).length) c4) (by rw [← HT.out]; exact hrow4) hb4 (.inl ⟨a, rfl, ha, rfl⟩) (HS.out a ha)
          have H3 := Lib.hid h3
          have H4 := Lib.hid h4
          clear h3 h4 hrow4 hb4
          go_roundw
          case rel => exact ⟨M ++ [(a : Int)], T' ++ S a, H3.out⟩
          case measure =>
            rw [HMS.out, mapD_is H3.out.map]
            have := H4.out
            show t + (S a).length + _ < t + 1 + _
            have := HT.out
            omega
end Go.Proofs.Ytlkijnglpllcdaa.Fx
