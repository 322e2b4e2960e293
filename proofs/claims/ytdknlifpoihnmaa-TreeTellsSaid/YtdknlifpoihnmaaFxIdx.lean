/-
  The walks of slices.IndexFunc and ContainsFunc at plain's closures; wrong; the productions' order.
-/
import Derived.Test.YtdknlifpoihnmaaFxSmall
namespace Go.Proofs.Ytdknlifpoihnmaa.Fx
open Go.RowKit
open Gn (Asks)
set_option maxRecDepth 100000

theorem any_stepmiss (p : Int → Bool) (l : List (Int)) (k : Nat) (h : k < l.length) : (l.drop k).any p = (p l[k] || (l.drop (k + 1)).any p) := by
  rw [List.drop_eq_getElem_cons h, List.any_cons]
set_option maxHeartbeats 2000000 in
theorem index_miss (g : PG) (B : Nat) (l : List (Int)) (P : Nat → Prop) (W : World) (v : Value) (h : IntsAt P W l v) (hn : l.length ≤ 1099511627776)
    (hc : ∀ x ∈ l, ∀ w, Below W.heap.size W w → Calls Try.prog 79 #[.int .i64 x, .pointer (some ⟨B, 0, none⟩)] w (Asks ((missB g) x) w)) :
    Calls Try.prog 92 #[v, .func (.func 79) #[] #[.pointer (some ⟨B, 0, none⟩)]] W fun e w' => ∃ i : Int, e = .returned (.int .i64 i) ∧ decide (0 ≤ i) = l.any (missB g) ∧ Below W.heap.size W w' := by
  obtain ⟨A, cap, r, rfl, hcap, h3, h4⟩ := h
  obtain ⟨R, hR⟩ : ∃ R, R = l.any (missB g) := ⟨_, rfl⟩
  rw [← hR]
  have HR := Lib.hid hR
  obtain ⟨n, hn1⟩ : ∃ n, n = l.length := ⟨_, rfl⟩
  rw [← hn1] at hcap h3 hn ⊢
  have HN1 := Lib.hid hn1
  have H3 := Lib.hid h3
  have H4 := Lib.hid h4
  have HC := Lib.hid hc
  have HB := Lib.hid (Below.refl W.heap.size W)
  clear hR hn1 h3 h4 hc
  go_enter Try.func92, Try.ntmps92
  go_wp2
  go_loopw [8] (fun i wr => ∃ k : Nat, k ≤ n ∧ i = .int .i64 k ∧ Below W.heap.size W wr ∧ (l.drop k).any (missB g) = R) (fun i _ => n - (intOf i).toNat)
  case atStart => exact ⟨0, Nat.zero_le _, rfl, HB.out, HR.out.symm⟩
  case round =>
    obtain ⟨k, hk, rfl, hbel, hE⟩ := hrel
    have HE := Lib.hid hE
    have HBL := Lib.hid hbel
    clear hE hbel
    by_cases hlt : k < n
    · have h1 : k < l.length := by rw [← HN1.out]; exact hlt
      obtain ⟨eA, hr, _⟩ := H3.out (by omega)
      subst eA
      have HX := H4.out k h1
      have x0 := HX
      have X0 := (HBL.out.cell (p := ⟨r, k, none⟩) hr).trans x0
      have hst := any_stepmiss (missB g) l k h1
      rw [HE.out] at hst
      have KC := HC.out (l[k]) (List.getElem_mem h1) wr HBL.out
      obtain ⟨E, hEe⟩ : ∃ E, E = (missB g) l[k] := ⟨_, rfl⟩
      rw [← hEe] at hst KC
      obtain ⟨z, hz⟩ : ∃ z, z = l[k] := ⟨_, rfl⟩
      rw [← hz] at X0 KC
      clear hz
      have HST := Lib.hid hst
      have HKC := Lib.hid KC
      clear hst KC hEe x0 HX
      go_wp2_with fail
      refine HKC.out.mono ?_
      rintro e w3 ⟨rfl, b3⟩
      have HB3 := Lib.hid (HBL.out.trans (b3.mono HBL.out.size))
      clear b3
      cases E
      · go_wp2
        go_roundw
        case rel => exact ⟨k + 1, by omega, by simp, HB3.out, by have := HST.out; rw [this]; rfl⟩
        case measure => simp [intOf]; omega
      · go_wp2
        go_ret
        exact ⟨k, rfl, by rw [HST.out]; simp, HB3.out⟩
    · have HF := Lib.hid (show R = false by rw [← HE.out, List.drop_eq_nil_of_le (by have := HN1.out; omega)]; rfl)
      go_wp2
      go_ret
      exact ⟨-1, rfl, by rw [HF.out]; rfl, HBL.out⟩
theorem has_miss (g : PG) (B : Nat) (l : List (Int)) (P : Nat → Prop) (W : World) (v : Value) (h : IntsAt P W l v) (hn : l.length ≤ 1099511627776)
    (hc : ∀ x ∈ l, ∀ w, Below W.heap.size W w → Calls Try.prog 79 #[.int .i64 x, .pointer (some ⟨B, 0, none⟩)] w (Asks ((missB g) x) w)) :
    Calls Try.prog 80 #[v, .func (.func 79) #[] #[.pointer (some ⟨B, 0, none⟩)]] W (Asks (l.any (missB g)) W) := by
  have HK := Lib.hid (index_miss g B l P W v h hn hc)
  obtain ⟨A, cap, rfl⟩ := h.form
  generalize l.any (missB g) = R at HK ⊢
  clear h hn hc
  go_enter Try.func80, Try.ntmps80
  go_wp2_with fail
  refine HK.out.mono ?_
  rintro e w1 ⟨i, rfl, hi, hb⟩
  have HI := Lib.hid hi
  clear hi
  go_wp2
  go_ret
  exact ⟨by rw [← HI.out]; rfl, hb⟩

theorem any_steplong (p : ByteArray → Bool) (l : List (ByteArray)) (k : Nat) (h : k < l.length) : (l.drop k).any p = (p l[k] || (l.drop (k + 1)).any p) := by
  rw [List.drop_eq_getElem_cons h, List.any_cons]
set_option maxHeartbeats 2000000 in
theorem index_long  (l : List (ByteArray)) (P : Nat → Prop) (W : World) (v : Value) (h : StrsAt P W l v) (hn : l.length ≤ 1099511627776)
    (hc : ∀ x ∈ l, ∀ w, Below W.heap.size W w → Calls Try.prog 56 #[.string x] w (Asks ((longB) x) w)) :
    Calls Try.prog 77 #[v, .func (.func 56) #[] #[]] W fun e w' => ∃ i : Int, e = .returned (.int .i64 i) ∧ decide (0 ≤ i) = l.any (longB) ∧ Below W.heap.size W w' := by
  obtain ⟨A, cap, r, rfl, hcap, h3, h4⟩ := h
  obtain ⟨R, hR⟩ : ∃ R, R = l.any (longB) := ⟨_, rfl⟩
  rw [← hR]
  have HR := Lib.hid hR
  obtain ⟨n, hn1⟩ : ∃ n, n = l.length := ⟨_, rfl⟩
  rw [← hn1] at hcap h3 hn ⊢
  have HN1 := Lib.hid hn1
  have H3 := Lib.hid h3
  have H4 := Lib.hid h4
  have HC := Lib.hid hc
  have HB := Lib.hid (Below.refl W.heap.size W)
  clear hR hn1 h3 h4 hc
  go_enter Try.func77, Try.ntmps77
  go_wp2
  go_loopw [8] (fun i wr => ∃ k : Nat, k ≤ n ∧ i = .int .i64 k ∧ Below W.heap.size W wr ∧ (l.drop k).any (longB) = R) (fun i _ => n - (intOf i).toNat)
  case atStart => exact ⟨0, Nat.zero_le _, rfl, HB.out, HR.out.symm⟩
  case round =>
    obtain ⟨k, hk, rfl, hbel, hE⟩ := hrel
    have HE := Lib.hid hE
    have HBL := Lib.hid hbel
    clear hE hbel
    by_cases hlt : k < n
    · have h1 : k < l.length := by rw [← HN1.out]; exact hlt
      obtain ⟨eA, hr, _⟩ := H3.out (by omega)
      subst eA
      have HX := H4.out k h1
      have x0 := HX
      have X0 := (HBL.out.cell (p := ⟨r, k, none⟩) hr).trans x0
      have hst := any_steplong (longB) l k h1
      rw [HE.out] at hst
      have KC := HC.out (l[k]) (List.getElem_mem h1) wr HBL.out
      obtain ⟨E, hEe⟩ : ∃ E, E = (longB) l[k] := ⟨_, rfl⟩
      rw [← hEe] at hst KC
      obtain ⟨z, hz⟩ : ∃ z, z = l[k] := ⟨_, rfl⟩
      rw [← hz] at X0 KC
      clear hz
      have HST := Lib.hid hst
      have HKC := Lib.hid KC
      clear hst KC hEe x0 HX
      go_wp2_with fail
      refine HKC.out.mono ?_
      rintro e w3 ⟨rfl, b3⟩
      have HB3 := Lib.hid (HBL.out.trans (b3.mono HBL.out.size))
      clear b3
      cases E
      · go_wp2
        go_roundw
        case rel => exact ⟨k + 1, by omega, by simp, HB3.out, by have := HST.out; rw [this]; rfl⟩
        case measure => simp [intOf]; omega
      · go_wp2
        go_ret
        exact ⟨k, rfl, by rw [HST.out]; simp, HB3.out⟩
    · have HF := Lib.hid (show R = false by rw [← HE.out, List.drop_eq_nil_of_le (by have := HN1.out; omega)]; rfl)
      go_wp2
      go_ret
      exact ⟨-1, rfl, by rw [HF.out]; rfl, HBL.out⟩
theorem has_long  (l : List (ByteArray)) (P : Nat → Prop) (W : World) (v : Value) (h : StrsAt P W l v) (hn : l.length ≤ 1099511627776)
    (hc : ∀ x ∈ l, ∀ w, Below W.heap.size W w → Calls Try.prog 56 #[.string x] w (Asks ((longB) x) w)) :
    Calls Try.prog 55 #[v, .func (.func 56) #[] #[]] W (Asks (l.any (longB)) W) := by
  have HK := Lib.hid (index_long  l P W v h hn hc)
  obtain ⟨A, cap, rfl⟩ := h.form
  generalize l.any (longB) = R at HK ⊢
  clear h hn hc
  go_enter Try.func55, Try.ntmps55
  go_wp2_with fail
  refine HK.out.mono ?_
  rintro e w1 ⟨i, rfl, hi, hb⟩
  have HI := Lib.hid hi
  clear hi
  go_wp2
  go_ret
  exact ⟨by rw [← HI.out]; rfl, hb⟩

theorem any_stepwrong (p : Prd → Bool) (l : List (Prd)) (k : Nat) (h : k < l.length) : (l.drop k).any p = (p l[k] || (l.drop (k + 1)).any p) := by
  rw [List.drop_eq_getElem_cons h, List.any_cons]
set_option maxHeartbeats 2000000 in
theorem index_wrong (g : PG) (gv : Value) (l : List (Prd)) (P : Nat → Prop) (W : World) (v : Value) (h : PrdsAt P W l v) (hn : l.length ≤ 1099511627776)
    (hc : ∀ x ∈ l, ∀ (u : Value) (w : World), IntsAt P w x.right u → Below W.heap.size W w → Calls Try.prog 58 #[gv, .agg #[.int .i64 x.left, u]] w (Asks ((wrongB g) x) w)) :
    Calls Try.prog 78 #[v, .func (.func 58) #[gv] #[]] W fun e w' => ∃ i : Int, e = .returned (.int .i64 i) ∧ decide (0 ≤ i) = l.any (wrongB g) ∧ Below W.heap.size W w' := by
  obtain ⟨A, cap, r, f, rfl, hcap, h3, h4⟩ := h
  obtain ⟨R, hR⟩ : ∃ R, R = l.any (wrongB g) := ⟨_, rfl⟩
  rw [← hR]
  have HR := Lib.hid hR
  obtain ⟨n, hn1⟩ : ∃ n, n = l.length := ⟨_, rfl⟩
  rw [← hn1] at hcap h3 hn ⊢
  have HN1 := Lib.hid hn1
  have H3 := Lib.hid h3
  have H4 := Lib.hid h4
  have HC := Lib.hid hc
  have HB := Lib.hid (Below.refl W.heap.size W)
  clear hR hn1 h3 h4 hc
  go_enter Try.func78, Try.ntmps78
  go_wp2
  go_loopw [8] (fun i wr => ∃ k : Nat, k ≤ n ∧ i = .int .i64 k ∧ Below W.heap.size W wr ∧ (l.drop k).any (wrongB g) = R) (fun i _ => n - (intOf i).toNat)
  case atStart => exact ⟨0, Nat.zero_le _, rfl, HB.out, HR.out.symm⟩
  case round =>
    obtain ⟨k, hk, rfl, hbel, hE⟩ := hrel
    have HE := Lib.hid hE
    have HBL := Lib.hid hbel
    clear hE hbel
    by_cases hlt : k < n
    · have h1 : k < l.length := by rw [← HN1.out]; exact hlt
      obtain ⟨eA, hr, _⟩ := H3.out (by omega)
      subst eA
      have HX := H4.out k h1
      obtain ⟨x0, x1, hnd⟩ := HX
      have X0 := (HBL.out.cell (p := ⟨r, k * 2, none⟩) hr).trans x0
      have X1 := (HBL.out.cell (p := ⟨r, k * 2 + 1, none⟩) hr).trans x1
      have hst := any_stepwrong (wrongB g) l k h1
      rw [HE.out] at hst
      have hnw : IntsAt P wr l[k].right (f k) := hnd.keep HBL.out.size fun q hq hq2 => ⟨hq, fun j => HBL.out.cell (p := ⟨q, j, none⟩) hq2⟩
      have KC := HC.out (l[k]) (List.getElem_mem h1) _ wr hnw HBL.out
      obtain ⟨E, hEe⟩ : ∃ E, E = (wrongB g) l[k] := ⟨_, rfl⟩
      rw [← hEe] at hst KC
      obtain ⟨y, hy⟩ : ∃ y, y = l[k].left := ⟨_, rfl⟩
      rw [← hy] at X0 KC
      obtain ⟨Az, cz, ez⟩ := hnd.form
      rw [ez] at X1 KC
      generalize l[k].right.length = mz at X1 KC
      clear hy ez hnw hnd
      have HST := Lib.hid hst
      have HKC := Lib.hid KC
      clear hst KC hEe x0 x1
      go_wp2_with fail
      refine HKC.out.mono ?_
      rintro e w3 ⟨rfl, b3⟩
      have HB3 := Lib.hid (HBL.out.trans (b3.mono HBL.out.size))
      clear b3
      cases E
      · go_wp2
        go_roundw
        case rel => exact ⟨k + 1, by omega, by simp, HB3.out, by have := HST.out; rw [this]; rfl⟩
        case measure => simp [intOf]; omega
      · go_wp2
        go_ret
        exact ⟨k, rfl, by rw [HST.out]; simp, HB3.out⟩
    · have HF := Lib.hid (show R = false by rw [← HE.out, List.drop_eq_nil_of_le (by have := HN1.out; omega)]; rfl)
      go_wp2
      go_ret
      exact ⟨-1, rfl, by rw [HF.out]; rfl, HBL.out⟩
theorem has_wrong (g : PG) (gv : Value) (l : List (Prd)) (P : Nat → Prop) (W : World) (v : Value) (h : PrdsAt P W l v) (hn : l.length ≤ 1099511627776)
    (hc : ∀ x ∈ l, ∀ (u : Value) (w : World), IntsAt P w x.right u → Below W.heap.size W w → Calls Try.prog 58 #[gv, .agg #[.int .i64 x.left, u]] w (Asks ((wrongB g) x) w)) :
    Calls Try.prog 57 #[v, .func (.func 58) #[gv] #[]] W (Asks (l.any (wrongB g)) W) := by
  have HK := Lib.hid (index_wrong g gv l P W v h hn hc)
  obtain ⟨A, cap, rfl⟩ := h.form
  generalize l.any (wrongB g) = R at HK ⊢
  clear h hn hc
  go_enter Try.func57, Try.ntmps57
  go_wp2_with fail
  refine HK.out.mono ?_
  rintro e w1 ⟨i, rfl, hi, hb⟩
  have HI := Lib.hid hi
  clear hi
  go_wp2
  go_ret
  exact ⟨by rw [← HI.out]; rfl, hb⟩


set_option maxHeartbeats 2000000 in
theorem wrong_any (g : PG) (hs : g.Small) (P : Nat → Prop) (W : World) (v : Value) (h : PgAt P W g v) (x : Prd) (u : Value) (hu : IntsAt P W x.right u) (hx : x.right.length ≤ 1099511627776) :
    Calls Try.prog 58 #[v, .agg #[.int .i64 x.left, u]] W (Asks (wrongB g x) W) := by
  have hmf : ∀ (fn : Fn) (first cap : Array Value) (w : World), (Instr.makeFunc fn first cap).run Try.prog w = .ok (.func fn first cap) w := fun _ _ _ _ => rfl
  obtain ⟨An, At_, Ap, cn, ct, cp, rfl, _, _, _⟩ := h.open_
  obtain ⟨Au, cu, rfl⟩ := hu.form
  have hbx := PgBox.new h
  have b1 : Below W.heap.size W (W.alloc (.cells #[.int .i64 g.start, .int .i64 g.rules, .slice An g.names.length cn, .slice At_ g.terms.length ct, .slice Ap g.prods.length cp] 31)) := (Below.refl _ _).alloc (Nat.le_refl _) _
  have b2 := b1.alloc (by simp) (.cells #[.int .i64 x.left, .slice Au x.right.length cu] 79)
  have b12 : Below (W.alloc (.cells #[.int .i64 g.start, .int .i64 g.rules, .slice An g.names.length cn, .slice At_ g.terms.length ct, .slice Ap g.prods.length cp] 31)).heap.size (W.alloc (.cells #[.int .i64 g.start, .int .i64 g.rules, .slice An g.names.length cn, .slice At_ g.terms.length ct, .slice Ap g.prods.length cp] 31)) _ := (Below.refl _ _).alloc (Nat.le_refl _) (.cells #[.int .i64 x.left, .slice Au x.right.length cu] 79)
  have hn2 := heap_alloc_new (W.alloc (.cells #[.int .i64 g.start, .int .i64 g.rules, .slice An g.names.length cn, .slice At_ g.terms.length ct, .slice Ap g.prods.length cp] 31)) (.cells #[.int .i64 x.left, .slice Au x.right.length cu] 79)
  rw [Gn.size_alloc'] at hn2
  have KN := Lib.hid (fun w (hw : PgAt P w g (.agg #[.int .i64 g.start, .int .i64 g.rules, .slice An g.names.length cn, .slice At_ g.terms.length ct, .slice Ap g.prods.length cp])) => nonterm_any g hs P w _ hw x.left)
  have KI := Lib.hid (fun w (hw : IntsAt P w x.right (.slice Au x.right.length cu)) (hb : PgBox P w g W.heap.size) => has_miss g W.heap.size x.right P w _ hw hx fun y _ w' hw' => miss_any g hs P w' W.heap.size (hb.under hw') y)
  have HG := Lib.hid (h.under b2)
  have HU := Lib.hid (hu.under b2)
  have HBX := Lib.hid (hbx.under b12)
  have HBC := Lib.hid ((b12.block _ (by simp)).trans (heap_alloc_new W _))
  have HX2 := Lib.hid hn2
  have HB2 := Lib.hid b2
  have hm : x.right.length ≤ 1099511627776 := hx
  unfold wrongB
  clear h hu hbx b1 b2 b12 hn2 hs hx
  obtain ⟨m, hm1⟩ : ∃ m, m = x.right.length := ⟨_, rfl⟩
  rw [← hm1] at KI HU HBX HBC HG HX2 HB2 hm
  rw [← hm1]
  clear hm1
  generalize ntB g x.left = bn at KN ⊢
  generalize x.right.any (missB g) = ba at KI ⊢
  go_enter Try.func58, Try.ntmps58
  go_upto_region 2 with fail
  obtain ⟨V, hV⟩ : ∃ V, V = (W.alloc (.cells #[.int .i64 g.start, .int .i64 g.rules, .slice An g.names.length cn, .slice At_ g.terms.length ct, .slice Ap g.prods.length cp] 31)).alloc (.cells #[.int .i64 x.left, .slice Au m cu] 79) := ⟨_, rfl⟩
  rw [← hV] at HG HU HBX HBC HX2 HB2 ⊢
  clear hV
  have g0 : V.cell? ⟨W.heap.size, 0, none⟩ = some (.int .i64 g.start) := cell_of_row _ _ 0 _ _ (0, 0) HBC.out
  have g1 : V.cell? ⟨W.heap.size, 1, none⟩ = some (.int .i64 g.rules) := cell_of_row _ _ 1 _ _ (0, 0) HBC.out
  have g2 : V.cell? ⟨W.heap.size, 2, none⟩ = some (.slice An g.names.length cn) := cell_of_row _ _ 2 _ _ (0, 0) HBC.out
  have g3 : V.cell? ⟨W.heap.size, 3, none⟩ = some (.slice At_ g.terms.length ct) := cell_of_row _ _ 3 _ _ (0, 0) HBC.out
  have g4 : V.cell? ⟨W.heap.size, 4, none⟩ = some (.slice Ap g.prods.length cp) := cell_of_row _ _ 4 _ _ (0, 0) HBC.out
  have x0 : V.cell? ⟨W.heap.size + 1, 0, none⟩ = some (.int .i64 x.left) := cell_of_row _ _ 0 _ _ (0, 0) HX2.out
  go_wp2_with fail
  refine (KN.out _ HG.out).mono ?_
  rintro e w3 ⟨rfl, b3⟩
  have hx3 := (b3.block _ (Gn.heap_lt HX2.out)).trans HX2.out
  have x1 : w3.cell? ⟨W.heap.size + 1, 1, none⟩ = some (.slice Au m cu) := cell_of_row _ _ 1 _ _ (0, 0) hx3
  have HB3 := Lib.hid (HB2.out.trans (b3.mono HB2.out.size))
  have HU3 := Lib.hid (HU.out.under b3)
  have HBX3 := Lib.hid (HBX.out.under b3)
  clear b3 hx3 g0 g1 g2 g3 g4 x0
  cases bn
  · go_wp2
    go_ret
    exact ⟨rfl, HB3.out⟩
  · by_cases h16 : (16 : Int) < (m : Int)
    · have HD := Lib.hid (show decide (16 < m) = true from decide_eq_true (by omega))
      go_wp2
      go_ret
      exact ⟨by rw [HD.out]; rfl, HB3.out⟩
    · have HD := Lib.hid (show decide (16 < m) = false from decide_eq_false (by omega))
      have h16b : decide ((16 : Int) < (m : Int)) = false := decide_eq_false h16
      go_wp2_with fail
      refine (KI.out _ HU3.out HBX3.out).mono ?_
      rintro e w4 ⟨rfl, b4⟩
      have HB4 := Lib.hid (HB3.out.trans (b4.mono HB3.out.size))
      clear b4
      go_wp2
      go_ret
      exact ⟨by rw [HD.out]; rfl, HB4.out⟩
end Go.Proofs.Ytdknlifpoihnmaa.Fx
