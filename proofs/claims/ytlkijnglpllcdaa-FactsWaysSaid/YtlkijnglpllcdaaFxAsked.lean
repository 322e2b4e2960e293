/-
  The walks of asked, Nullable and Generating.
-/
import Derived.Test.YtlkijnglpllcdaaFxLen
import Derived.Maps.AppendAt
namespace Go.Proofs.Ytlkijnglpllcdaa.Fx
open Go.RowKit
set_option maxRecDepth 100000

theorem binfo : (Try.prog.info? 4).map (fun i => (i.zero, i.size, i.bytes)) = some (some (.bool false), 1, 1) := by kernel_rfl
/-- This value reads as these bools. -/
def BoolsAt (P : Nat → Prop) (W : World) (l : List Bool) (v : Value) : Prop :=
  ∃ (A : Option Addr) (cap b : Nat), v = .slice A l.length cap ∧ l.length ≤ cap ∧ (0 < l.length → A = some ⟨b, 0, none⟩ ∧ b < W.heap.size ∧ P b) ∧ ∀ (i : Nat) (h : i < l.length), W.cell? ⟨b, i, none⟩ = some (.bool l[i])
theorem BoolsAt.keep {P Q : Nat → Prop} {W W' : World} {l : List Bool} {v : Value} (h : BoolsAt P W l v) (hs : W.heap.size ≤ W'.heap.size) (hq : ∀ r, P r → r < W.heap.size → Q r ∧ ∀ j, W'.cell? ⟨r, j, none⟩ = W.cell? ⟨r, j, none⟩) : BoolsAt Q W' l v := by
  obtain ⟨A, cap, b, h1, h2, h3, h4⟩ := h
  refine ⟨A, cap, b, h1, h2, fun h0 => ?_, fun i hi => ?_⟩
  · obtain ⟨e1, e2, e3⟩ := h3 h0
    exact ⟨e1, by omega, (hq b e3 e2).1⟩
  · obtain ⟨e1, e2, e3⟩ := h3 (by omega)
    rw [(hq b e3 e2).2]
    exact h4 i hi
theorem BoolsAt.under {P : Nat → Prop} {W W' : World} {l : List Bool} {v : Value} (h : BoolsAt P W l v) (b : Below W.heap.size W W') : BoolsAt P W' l v :=
  h.keep b.size fun r hp hr => ⟨hp, fun j => b.cell (p := ⟨r, j, none⟩) hr⟩
theorem BoolsAt.form {P : Nat → Prop} {W : World} {l : List Bool} {v : Value} (h : BoolsAt P W l v) : ∃ A cap, v = .slice A l.length cap := by
  obtain ⟨A, cap, b, h1, _⟩ := h; exact ⟨A, cap, h1⟩
theorem BoolsAt.of_own {W : World} {base : Nat} {e : TypeId} {v : Value} {l : List Bool} (h : W.ownsRow base e 1 v l.length (l.map Value.bool)) : BoolsAt (fun b => base ≤ b) W l v := by
  rcases h.2 with ⟨rfl, hn⟩ | ⟨g, cp, cur, rfl, hbr, hh, hnc, _⟩
  · have e : l = [] := List.eq_nil_of_length_eq_zero hn
    subst e
    exact ⟨none, 0, 0, rfl, by simp, fun h => absurd h (by simp), fun i h => absurd h (by simp)⟩
  · have hc := h.cells (g := g) rfl
    refine ⟨_, cp, g, rfl, hnc, fun _ => ⟨rfl, Gn.heap_lt hh, hbr⟩, fun i hi => ?_⟩
    have := hc i (.bool l[i]) (by simp [hi])
    rwa [Gn.add_row] at this
theorem nul_any (x : Int) (W : World) : Calls Try.prog 27 #[.int .i64 x] W fun e w' => e = .returned (.bool (x == 0)) ∧ W = w' := by
  go_enter Try.func27, Try.ntmps27
  go_wp2
  go_ret
  exact ⟨rfl, rfl⟩
theorem gen_any (x : Int) (W : World) : Calls Try.prog 26 #[.int .i64 x] W fun e w' => e = .returned (.bool (x != -1)) ∧ W = w' := by
  go_enter Try.func26, Try.ntmps26
  go_wp2
  go_ret
  exact ⟨rfl, rfl⟩

theorem own_mono {w : World} {base base' : Nat} {e : TypeId} {size : Nat} {v : Value} {n : Nat} {xs : List Value} (h : w.ownsRow base e size v n xs) (hb : base' ≤ base) : w.ownsRow base' e size v n xs := by
  refine ⟨h.1, ?_⟩
  rcases h.2 with h2 | ⟨g, cp, cur, h2, h3, h4⟩
  · exact .inl h2
  · exact .inr ⟨g, cp, cur, h2, Nat.le_trans hb h3, h4⟩

set_option maxHeartbeats 2000000 in
theorem asked_nul (L : List Int) (hn : L.length ≤ 1048576) (P : Nat → Prop) (W : World) (v : Value) (h : IntsAt P W L v) :
    Calls Try.prog 25 #[v, .func (.func 27) #[] #[]] W fun e w' => ∃ u, e = .returned u ∧ w'.ownsRow W.heap.size 4 1 u L.length ((L.map (fun x : Int => x == 0)).map Value.bool) ∧ Below W.heap.size W w' := by
  obtain ⟨A, cap, b, rfl, hcap, h3, h4⟩ := h
  obtain ⟨n, hn1⟩ : ∃ n, n = L.length := ⟨_, rfl⟩
  rw [← hn1] at hcap h3 hn ⊢
  have HN1 := Lib.hid hn1
  have H3 := Lib.hid h3
  have H4 := Lib.hid h4
  have KC := Lib.hid (fun x W => nul_any x W)
  obtain ⟨i0, hi0, hz0, hz1, hz2⟩ := info_parts binfo
  clear hn1 h3 h4
  go_enter Try.func25, Try.ntmps25
  go_wp2
  go_loopw [5, 10] (fun u i wr => ∃ k : Nat, k ≤ n ∧ i = .int .i64 k ∧ wr.ownsRow W.heap.size 4 1 u k (((L.take k).map (fun x : Int => x == 0)).map Value.bool) ∧ Below W.heap.size W wr) (fun _ i _ => n - (intOf i).toNat)
  case atStart => exact ⟨0, Nat.zero_le _, rfl, World.ownsRow_nil _ _ _ _, Below.refl _ _⟩
  case round =>
    obtain ⟨k, hk, rfl, hrow, hbel⟩ := hrel
    obtain ⟨Au, cu, rfl⟩ := Gn.slice_of hrow
    have HR := Lib.hid hrow
    have HB := Lib.hid hbel
    clear hrow hbel
    by_cases hlt : k < n
    · have h1 : k < L.length := by rw [← HN1.out]; exact hlt
      obtain ⟨rfl, hb, _⟩ := H3.out (by omega)
      have x0 := (HB.out.cell (p := ⟨b, k, none⟩) hb).trans (H4.out k h1)
      have HT := Lib.hid (show ((L.take (k + 1)).map (fun x : Int => x == 0)).map Value.bool = ((L.take k).map (fun x : Int => x == 0)).map Value.bool ++ [Value.bool ((fun x : Int => x == 0) L[k])] by rw [List.take_succ_eq_append_getElem h1, List.map_append, List.map_append]; rfl)
      obtain ⟨z, hz⟩ : ∃ z, z = L[k] := ⟨_, rfl⟩
      rw [← hz] at x0 HT
      have KZ := Lib.hid (KC.out z)
      obtain ⟨t, ht⟩ : ∃ t, t = (fun x : Int => x == 0) z := ⟨_, rfl⟩
      rw [← ht] at HT
      have HTT := Lib.hid ht
      clear hz ht
      go_wp2_with fail
      refine (KZ.out _).mono ?_
      rintro e w3 ⟨rfl, rfl⟩
      rw [show (z == 0) = t from HTT.out.symm]
      go_wp2_with (at_builtin; refine wpList_append_lies _ rfl _ _ 38 rfl W.heap.size 4 i0 _ 1 1 Try.underlying38 hi0 hz0 hz1 hz2 rfl (by decide) (.slice Au k cu) k _ rfl (HR.out.alloc _) ⟨wr.heap.size, 0, none⟩ 1 1 [.bool t] rfl rfl (Gn.row_new _ [.bool t] _ _ rfl) (by simp [Value.oneCell']) (by decide) (by unfold maxLen; omega) (by omega) (by have := HB.out.size; simp; omega) _ rfl ?_; intro gq cap' w4 hown4 hgrow4 hat4 hlt4; rw [← HT.out] at hown4; have HO4 := Lib.hid hown4; have HB4 := Lib.hid (((HB.out.alloc HB.out.size _).grown hgrow4 (by have := HB.out.size; simp; omega) (fun j hj => Gn.own_block HR.out j hj))); clear hown4 hgrow4 hat4 hlt4)
      go_roundw
      case rel => exact ⟨k + 1, by omega, by simp, HO4.out, HB4.out⟩
      case measure => simp [intOf]; omega
    · obtain rfl : k = n := by omega
      have HF := Lib.hid (show L.take k = L by rw [List.take_of_length_le (by have := HN1.out; omega)])
      go_wp2
      go_ret
      exact ⟨_, rfl, by have := HR.out; rwa [HF.out] at this, HB.out⟩

set_option maxHeartbeats 2000000 in
theorem nullable_any (g : PG) (hs : g.Fits) (hsd : soundB g = true) (P : Nat → Prop) (W : World) (v : Value) (h : PgAt P W g v) :
    Calls Try.prog 14 #[v] W fun e w' => ∃ (u : Value) (L : List Int), e = .returned u ∧ Least g L ∧ w'.ownsRow W.heap.size 4 1 u L.length ((L.map (fun x : Int => x == 0)).map Value.bool) ∧ Below W.heap.size W w' := by
  have hlen : ∀ L, Least g L → L.length ≤ 1048576 := fun L hL => by rw [(runs_ok hL.runs).1]; have := (snd_of hsd).few.1; omega
  obtain ⟨An, At_, Ap, cn, ct, cp, rfl, _, _, _⟩ := h.open_
  have hbb : Below W.heap.size W (W.alloc (.cells #[.int .i64 g.start, .int .i64 g.rules, .slice An g.names.length cn, .slice At_ g.terms.length ct, .slice Ap g.prods.length cp] 30)) := (Below.refl _ _).alloc (Nat.le_refl _) _
  have KS := shortest_any g hs hsd P _ _ (h.under hbb)
  have HKS := Lib.hid KS
  have HBB := Lib.hid hbb
  have HLEN := Lib.hid hlen
  clear h hs hsd hbb KS hlen
  go_enter Try.func14, Try.ntmps14
  go_wp2_with fail
  refine HKS.out.mono ?_
  rintro e w1 ⟨b, L, rfl, hb, hrow, hL, b1⟩
  have KA := Lib.hid (asked_nul L (HLEN.out L hL) _ w1 _ hrow.ints)
  have HB1 := Lib.hid (HBB.out.trans (b1.mono HBB.out.size))
  have HL := Lib.hid hL
  clear hb hrow hL b1
  go_wp2_with fail
  refine KA.out.mono ?_
  rintro e w2 ⟨u, rfl, hown, b2⟩
  have HO := Lib.hid (own_mono hown HB1.out.size)
  have HB2 := Lib.hid (HB1.out.trans (b2.mono HB1.out.size))
  clear hown b2
  go_wp2
  go_ret
  exact ⟨u, L, rfl, HL.out, HO.out, HB2.out⟩

set_option maxHeartbeats 2000000 in
theorem asked_gen (L : List Int) (hn : L.length ≤ 1048576) (P : Nat → Prop) (W : World) (v : Value) (h : IntsAt P W L v) :
    Calls Try.prog 25 #[v, .func (.func 26) #[] #[]] W fun e w' => ∃ u, e = .returned u ∧ w'.ownsRow W.heap.size 4 1 u L.length ((L.map (fun x : Int => x != -1)).map Value.bool) ∧ Below W.heap.size W w' := by
  obtain ⟨A, cap, b, rfl, hcap, h3, h4⟩ := h
  obtain ⟨n, hn1⟩ : ∃ n, n = L.length := ⟨_, rfl⟩
  rw [← hn1] at hcap h3 hn ⊢
  have HN1 := Lib.hid hn1
  have H3 := Lib.hid h3
  have H4 := Lib.hid h4
  have KC := Lib.hid (fun x W => gen_any x W)
  obtain ⟨i0, hi0, hz0, hz1, hz2⟩ := info_parts binfo
  clear hn1 h3 h4
  go_enter Try.func25, Try.ntmps25
  go_wp2
  go_loopw [5, 10] (fun u i wr => ∃ k : Nat, k ≤ n ∧ i = .int .i64 k ∧ wr.ownsRow W.heap.size 4 1 u k (((L.take k).map (fun x : Int => x != -1)).map Value.bool) ∧ Below W.heap.size W wr) (fun _ i _ => n - (intOf i).toNat)
  case atStart => exact ⟨0, Nat.zero_le _, rfl, World.ownsRow_nil _ _ _ _, Below.refl _ _⟩
  case round =>
    obtain ⟨k, hk, rfl, hrow, hbel⟩ := hrel
    obtain ⟨Au, cu, rfl⟩ := Gn.slice_of hrow
    have HR := Lib.hid hrow
    have HB := Lib.hid hbel
    clear hrow hbel
    by_cases hlt : k < n
    · have h1 : k < L.length := by rw [← HN1.out]; exact hlt
      obtain ⟨rfl, hb, _⟩ := H3.out (by omega)
      have x0 := (HB.out.cell (p := ⟨b, k, none⟩) hb).trans (H4.out k h1)
      have HT := Lib.hid (show ((L.take (k + 1)).map (fun x : Int => x != -1)).map Value.bool = ((L.take k).map (fun x : Int => x != -1)).map Value.bool ++ [Value.bool ((fun x : Int => x != -1) L[k])] by rw [List.take_succ_eq_append_getElem h1, List.map_append, List.map_append]; rfl)
      obtain ⟨z, hz⟩ : ∃ z, z = L[k] := ⟨_, rfl⟩
      rw [← hz] at x0 HT
      have KZ := Lib.hid (KC.out z)
      obtain ⟨t, ht⟩ : ∃ t, t = (fun x : Int => x != -1) z := ⟨_, rfl⟩
      rw [← ht] at HT
      have HTT := Lib.hid ht
      clear hz ht
      go_wp2_with fail
      refine (KZ.out _).mono ?_
      rintro e w3 ⟨rfl, rfl⟩
      rw [show (z != -1) = t from HTT.out.symm]
      go_wp2_with (at_builtin; refine wpList_append_lies _ rfl _ _ 38 rfl W.heap.size 4 i0 _ 1 1 Try.underlying38 hi0 hz0 hz1 hz2 rfl (by decide) (.slice Au k cu) k _ rfl (HR.out.alloc _) ⟨wr.heap.size, 0, none⟩ 1 1 [.bool t] rfl rfl (Gn.row_new _ [.bool t] _ _ rfl) (by simp [Value.oneCell']) (by decide) (by unfold maxLen; omega) (by omega) (by have := HB.out.size; simp; omega) _ rfl ?_; intro gq cap' w4 hown4 hgrow4 hat4 hlt4; rw [← HT.out] at hown4; have HO4 := Lib.hid hown4; have HB4 := Lib.hid (((HB.out.alloc HB.out.size _).grown hgrow4 (by have := HB.out.size; simp; omega) (fun j hj => Gn.own_block HR.out j hj))); clear hown4 hgrow4 hat4 hlt4)
      go_roundw
      case rel => exact ⟨k + 1, by omega, by simp, HO4.out, HB4.out⟩
      case measure => simp [intOf]; omega
    · obtain rfl : k = n := by omega
      have HF := Lib.hid (show L.take k = L by rw [List.take_of_length_le (by have := HN1.out; omega)])
      go_wp2
      go_ret
      exact ⟨_, rfl, by have := HR.out; rwa [HF.out] at this, HB.out⟩

set_option maxHeartbeats 2000000 in
theorem generating_any (g : PG) (hs : g.Fits) (hsd : soundB g = true) (P : Nat → Prop) (W : World) (v : Value) (h : PgAt P W g v) :
    Calls Try.prog 12 #[v] W fun e w' => ∃ (u : Value) (L : List Int), e = .returned u ∧ Least g L ∧ w'.ownsRow W.heap.size 4 1 u L.length ((L.map (fun x : Int => x != -1)).map Value.bool) ∧ Below W.heap.size W w' := by
  have hlen : ∀ L, Least g L → L.length ≤ 1048576 := fun L hL => by rw [(runs_ok hL.runs).1]; have := (snd_of hsd).few.1; omega
  obtain ⟨An, At_, Ap, cn, ct, cp, rfl, _, _, _⟩ := h.open_
  have hbb : Below W.heap.size W (W.alloc (.cells #[.int .i64 g.start, .int .i64 g.rules, .slice An g.names.length cn, .slice At_ g.terms.length ct, .slice Ap g.prods.length cp] 30)) := (Below.refl _ _).alloc (Nat.le_refl _) _
  have KS := shortest_any g hs hsd P _ _ (h.under hbb)
  have HKS := Lib.hid KS
  have HBB := Lib.hid hbb
  have HLEN := Lib.hid hlen
  clear h hs hsd hbb KS hlen
  go_enter Try.func12, Try.ntmps12
  go_wp2_with fail
  refine HKS.out.mono ?_
  rintro e w1 ⟨b, L, rfl, hb, hrow, hL, b1⟩
  have KA := Lib.hid (asked_gen L (HLEN.out L hL) _ w1 _ hrow.ints)
  have HB1 := Lib.hid (HBB.out.trans (b1.mono HBB.out.size))
  have HL := Lib.hid hL
  clear hb hrow hL b1
  go_wp2_with fail
  refine KA.out.mono ?_
  rintro e w2 ⟨u, rfl, hown, b2⟩
  have HO := Lib.hid (own_mono hown HB1.out.size)
  have HB2 := Lib.hid (HB1.out.trans (b2.mono HB1.out.size))
  clear hown b2
  go_wp2
  go_ret
  exact ⟨u, L, rfl, HL.out, HO.out, HB2.out⟩
end Go.Proofs.Ytlkijnglpllcdaa.Fx
