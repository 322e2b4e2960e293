/-
  The walk of Reachable.
-/
import Derived.Test.YtlkijnglpllcdaaFxSpread
namespace Go.Proofs.Ytlkijnglpllcdaa.Fx
open Go.RowKit
set_option maxRecDepth 100000
set_option linter.unusedSimpArgs false

theorem goS_mem {φ : List Int → List Int} {ps : List Prd} {a : Nat} {y : Int} (h : y ∈ goS φ ps a) : ∃ p ∈ ps, y ∈ φ p.right := by
  unfold goS at h
  obtain ⟨p, hp, hy⟩ := List.mem_flatMap.1 h
  exact ⟨p, (List.mem_filter.1 hp).1, hy⟩
theorem leftD_le (S : Nat → List Int) (m : Nat) (D : DataW Unit) : ∀ n, (∀ a, a < n → (S a).length ≤ m) → leftD S n D ≤ n * m
  | 0, _ => by simp [leftD]
  | n + 1, h => by
    have ih := leftD_le S m D n fun a ha => h a (by omega)
    have := h n (Nat.lt_succ_self n)
    rw [leftD, Nat.add_mul, Nat.one_mul]
    split <;> omega
/-- Bools of the call's own, each telling what holds at its place. -/
def TellsB (n : Nat) (T : Nat → Prop) (W : World) (e : Ending) (w' : World) : Prop :=
  ∃ (g : Nat) (L : Nat → Bool), e = .returned (.slice (some ⟨g, 0, none⟩) n n) ∧ W.heap.size ≤ g ∧ w'.rowIs g 4 n (fun i => .bool (L i)) ∧ (∀ a, a < n → (L a = true ↔ T a)) ∧ Below W.heap.size W w'

set_option maxHeartbeats 8000000 in
theorem reach_any (g : PG) (hs : g.Fits) (hsd : soundB g = true) (P : Nat → Prop) (W : World) (v : Value) (h : PgAt P W g v) :
    Calls Try.prog 18 #[v] W (TellsB g.names.length (fun a => Come (goS id g.prods) [g.start] (a : Int)) W) := by
  have hS := snd_of hsd
  obtain ⟨An, At_, Ap, cn, ct, cp, rfl, hN, hT, hP⟩ := h.open_
  have hbb : Below W.heap.size W (W.alloc (.cells #[.int .i64 g.start, .int .i64 g.rules, .slice An g.names.length cn, .slice At_ g.terms.length ct, .slice Ap g.prods.length cp] 30)) := (Below.refl _ _).alloc (Nat.le_refl _) _
  have hbx := heap_alloc_new W (.cells #[.int .i64 g.start, .int .i64 g.rules, .slice An g.names.length cn, .slice At_ g.terms.length ct, .slice Ap g.prods.length cp] 30)
  have KS := sound_any g hs P _ _ (h.under hbb)
  rw [hsd] at KS
  obtain ⟨S, hSS⟩ : ∃ S, S = goS id g.prods := ⟨_, rfl⟩
  have hlen : ∀ a, (S a).length ≤ 256 * 16 := fun a => by
    have h1 := goS_len id 16 (fun _ => Nat.le_refl _) g.prods hS.short a
    have h2 := Nat.mul_le_mul_right 16 hS.few.2.2
    rw [hSS]; omega
  have hmem : ∀ a, a < g.names.length → ∀ y ∈ S a, -1048577 ≤ y ∧ y < (g.names.length : Int) := fun a _ y hy => by
    rw [hSS] at hy
    obtain ⟨p, hp, hy2⟩ := goS_mem hy
    have h1 := hS.known p hp y hy2
    have h2 := hS.few.2.1
    omega
  have KT : ∀ w, Below W.heap.size W w → Calls Try.prog 28 #[.agg #[.int .i64 g.start, .int .i64 g.rules, .slice An g.names.length cn, .slice At_ g.terms.length ct, .slice Ap g.prods.length cp], .func (.func 33) #[] #[]] w fun e w' => ∃ f, e = .returned (.slice (some ⟨w.heap.size + 1, 0, none⟩) g.names.length g.names.length) ∧ RowsAt w.heap.size (w.heap.size + 1) g.names.length S f w' ∧ Below w.heap.size w w' := fun w hw => by
    rw [hSS]
    exact steps_all id g.prods g.names.length (by have := hS.few.1; omega) (by have := hS.few.2.2; omega) (fun p hp => ⟨(hS.left p hp).1, (hS.left p hp).2, by have := hS.short p hp; omega⟩) (fun _ => Nat.le_refl _) P w g.start g.rules An At_ Ap cn g.terms.length ct cp (hP.under hw) fun p _ w2 u _ hi => goes_all p.right P w2 u hi
  rw [← hSS]
  obtain ⟨n, hn⟩ : ∃ n, n = g.names.length := ⟨_, rfl⟩
  have hn2 : n ≤ 256 := by have := hS.few.1; omega
  have hst0 : 0 ≤ g.start ∧ g.start < n := by have := hS.start; omega
  rw [← hn] at KS hbx hbb KT hmem ⊢
  obtain ⟨st, hst⟩ : ∃ st, st = g.start := ⟨_, rfl⟩
  rw [← hst] at KS hbx hbb KT hst0 ⊢
  generalize g.rules = ru at KS hbx hbb KT ⊢
  generalize g.terms.length = lt at KS hbx hbb KT ⊢
  generalize g.prods.length = np at KS hbx hbb KT ⊢
  have hkd : 1 + leftD S n (.map []) ≤ 1048577 := by
    have := leftD_le S (256 * 16) (.map []) n (fun a _ => hlen a)
    have h2 := Nat.mul_le_mul_right (256 * 16) hn2
    omega
  have KM : ∀ (w : World) (A : Option Addr) (c : Nat) (f : Nat → Value) (B G : Nat), RowsAt B G n S f w → IntsAt (fun _ => True) w [st] (.slice A 1 c) → Calls Try.prog 32 #[.slice (some ⟨G, 0, none⟩) n n, .slice A 1 c] w (Spreads S [st] 1048577 w) := fun w A c f B G hr hi =>
    spread_any B G n S f [st] 1048577 (by omega) hmem (fun x hx => by rw [List.mem_singleton] at hx; omega) hkd (by omega) _ w _ hr hi
  have HKS := Lib.hid KS
  have HKT := Lib.hid KT
  have HKM := Lib.hid KM
  have HBX := Lib.hid hbx
  have HBB := Lib.hid hbb
  have hmk := run_make_row' (P := Try.prog) 38 4 (.bool false) 1 rfl binfo rfl .i64 .i64 n (by omega) (by omega)
  have hmf : ∀ (fn : Fn) (first cap : Array Value) (w : World), (Instr.makeFunc fn first cap).run Try.prog w = .ok (.func fn first cap) w := fun _ _ _ _ => rfl
  clear h hN hT hP hbb hbx KS KT KM hsd hS hs hlen hmem hSS hn hst
  go_enter Try.func18, Try.ntmps18
  go_wp2_with fail
  refine HKS.out.mono ?_
  rintro e w1 ⟨rfl, b1⟩
  have hbx1 := (b1.block _ (Gn.heap_lt HBX.out)).trans HBX.out
  have HB1 := Lib.hid (HBB.out.trans (b1.mono HBB.out.size))
  have c0 := cell_of_row _ _ 0 _ _ (0, 0) hbx1
  have c1 := cell_of_row _ _ 1 _ _ (0, 0) hbx1
  have c2 := cell_of_row _ _ 2 _ _ (0, 0) hbx1
  have c3 := cell_of_row _ _ 3 _ _ (0, 0) hbx1
  have c4 := cell_of_row _ _ 4 _ _ (0, 0) hbx1
  have HBX1 := Lib.hid hbx1
  clear b1 hbx1 HKS
  go_wp2_with fail
  refine (HKT.out w1 HB1.out).mono ?_
  rintro e w2 ⟨f, rfl, hr2, b2⟩
  have hbx2 := (b2.block _ (Gn.heap_lt HBX1.out)).trans HBX1.out
  have HB2 := Lib.hid (HB1.out.trans (b2.mono HB1.out.size))
  have HR2 := Lib.hid (hr2.below ((Below.refl w2.heap.size w2).alloc (Nat.le_refl _) (.cells #[.int .i64 st] 3)))
  have HB2a := Lib.hid (HB2.out.alloc HB2.out.size (.cells #[.int .i64 st] 3))
  have HBX2 := Lib.hid ((heap_alloc_old w2 (.cells #[.int .i64 st] 3) (Gn.heap_lt hbx2)).trans hbx2)
  have d0 := cell_of_row _ _ 0 _ _ (0, 0) hbx2
  have hx := heap_alloc_new w2 (.cells #[.int .i64 st] 3)
  have HI2 := Lib.hid (show IntsAt (fun _ => True) (w2.alloc (.cells #[.int .i64 st] 3)) [st] (.slice (some ⟨w2.heap.size, 0, none⟩) 1 1) from ⟨_, 1, w2.heap.size, rfl, by simp, fun _ => ⟨rfl, Gn.heap_lt hx, trivial⟩, fun i hi => by
    have : i = 0 := by simp at hi; omega
    subst this
    exact cell_of_row _ _ 0 _ _ (0, 0) hx⟩)
  clear b2 hbx2 hr2 hx c0 c1 c2 c3 c4
  go_wp2_with fail
  generalize hV : World.alloc w2 _ = V
  rw [hV] at HR2 HB2a HBX2 HI2
  clear hV
  refine (HKM.out _ _ _ _ _ _ HR2.out HI2.out).mono ?_
  rintro e w3 ⟨M, rfl, hm3, hnd, hcm, b3⟩
  have hbx3 := (b3.block _ (Gn.heap_lt HBX2.out)).trans HBX2.out
  have HB3 := Lib.hid (HB2a.out.trans (b3.mono HB2a.out.size))
  have f2 := cell_of_row _ _ 2 _ _ (0, 0) hbx3
  have HM3 := Lib.hid (hm3.alloc (.cells (madeCells #[.bool false] n) 4))
  have HCM := Lib.hid hcm
  have HG := Lib.hid (World.rowIs_made w3 (.bool false) n 4)
  have HB4 := Lib.hid (HB3.out.alloc HB3.out.size (.cells (madeCells #[.bool false] n) 4))
  have HML := Lib.hid hm3.lt
  clear b3 hbx3 hm3 hnd hcm
  go_wp2_with fail
  clear hmk hmf f2 d0
  obtain ⟨mb, hmb⟩ : ∃ mb, mb = V.heap.size := ⟨_, rfl⟩
  rw [← hmb] at HM3 HML
  rw [← hmb]
  obtain ⟨gb, hgb⟩ : ∃ gb, gb = w3.heap.size := ⟨_, rfl⟩
  have HGB := Lib.hid (show W.heap.size ≤ gb by rw [hgb]; exact HB3.out.size)
  rw [← hgb] at HG HML
  rw [← hgb]
  have HMM := Lib.hid (show mb < gb from HML.out)
  clear hmb hgb
  go_loopw [23] (fun i wr => ∃ (k : Nat) (L : Nat → Bool), k ≤ n ∧ i = .int .i64 k ∧ wr.rowIs gb 4 n (fun i => .bool (L i)) ∧ (∀ a, a < k → (L a = true ↔ (a : Int) ∈ M)) ∧ wr.ownsMap Try.prog 3 unitElem mb 1048577 (setD M) ∧ Below W.heap.size W wr) (fun i _ => n - (intOf i).toNat)
  case atStart => exact ⟨0, fun _ => false, Nat.zero_le _, rfl, HG.out, fun a ha => absurd ha (by omega), HM3.out, HB4.out⟩
  case round =>
    obtain ⟨k, L, hk, rfl, hrow, htl, hmap, hbel⟩ := hrel
    by_cases hlt : k < n
    · have hkey := Maps.keyOf_int_mk (P := Try.prog) Try.underlying3 (show (Lit.int .i64 (k : Int)).wf = true from WalkArith.wf_i64 (by omega))
      obtain ⟨t, ht⟩ : ∃ t, t = Maps.has (setD M) (.int .i64 (k : Int)) := ⟨_, rfl⟩
      have HT := Lib.hid ht
      have HN2 := Lib.hid (show ∀ a, a < k + 1 → ((if a = k then t else L a) = true ↔ (a : Int) ∈ M) from fun a ha => by
        by_cases e : a = k
        · subst e
          rw [if_pos rfl, ht, setD_has, decide_eq_true_iff]
        · rw [if_neg e]
          exact htl a (by omega))
      have HROW := Lib.hid ((hrow.set k (.bool t)).congr (g := fun i => .bool (if i = k then t else L i)) fun i _ => by split <;> rfl)
      have y := hrow.cell hlt
      have yf := hrow.frozen k
      have HMAP := Lib.hid hmap
      have HMAP2 := Lib.hid (hmap.setCell (a := ⟨gb, k, none⟩) (by show mb ≠ gb; have := HMM.out; omega) (.bool t))
      have HB := Lib.hid (hbel.setCell (p := ⟨gb, k, none⟩) HGB.out (.bool t))
      clear ht htl hrow hmap hbel
      go_wp2_with (at_lookup; refine wpList_lookup_own_unit _ rfl _ _ 60 rfl 3 62 (Maps.int_keyed Try.underlying3) Try.underlying60 (zero_unit _) mb 1048577 _ rfl HMAP.out _ _ rfl hkey ?_; rw [← HT.out])
      go_roundw
      case rel => exact ⟨k + 1, _, by omega, by simp, HROW.out, HN2.out, HMAP2.out, HB.out⟩
      case measure => simp [intOf]; omega
    · obtain rfl : k = n := by omega
      have HROW := Lib.hid hrow
      have HTL := Lib.hid htl
      have HB := Lib.hid hbel
      clear hrow htl hmap hbel
      go_wp2
      go_ret
      exact ⟨gb, L, rfl, HGB.out, HROW.out, fun a ha => (HTL.out a ha).trans (HCM.out _), HB.out⟩
end Go.Proofs.Ytlkijnglpllcdaa.Fx
