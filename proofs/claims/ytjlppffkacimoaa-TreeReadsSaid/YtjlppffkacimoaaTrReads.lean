/-
  Layer 14: the walk of TreeReads.
-/
import Derived.Test.YtjlppffkacimoaaTrMadeW
import Derived.Test.YtjlppffkacimoaaTrL
import Derived.Test.YtjlppffkacimoaaTrRGet
import Derived.Test.YtjlppffkacimoaaTrPut
import Derived.Test.YtjlppffkacimoaaTrRead
namespace Go.Proofs.Ytjlppffkacimoaa.Fx
open Go.RowKit
set_option maxRecDepth 100000
set_option linter.unusedSimpArgs false
set_option linter.unusedVariables false
open Tr (Tr TrAt nodesT SmT smT_of fitsT putT speaks_any getT treeR kidsG nodeR wrapK Got TRes)
open Gn (Sep)
theorem side_len2 {g : PG} (hM : Made g) (n : Int) : (Tr.sideT g n).length ≤ 1099511627776 := by
  unfold Tr.sideT
  split
  · simp
  · split
    · rename_i h
      have := hM.short _ (List.getElem_mem h)
      omega
    · simp


theorem node_err {g : PG} {o : Option Int} {s : List UInt8} {nd c : Nat} (h : nodeR g o s nd = .error c) : c ≠ 0 := by
  have key : ∀ E : Nat, (if E = 0 then (Except.ok ((Oct.gb s).1, (Oct.gb s).2.1) : Except Nat (Int × Nat)) else .error E) = .error c → c ≠ 0 := fun E h => by
    by_cases h0 : E = 0
    · rw [if_pos h0] at h; cases h
    · rw [if_neg h0] at h
      injection h with h
      omega
  exact key _ h
theorem kids_err {T : Int → List UInt8 → Nat → TRes} (hT : ∀ y s nd c, T y s nd = .error c → c ≠ 0) : ∀ (ys : List Int) (acc : List Tr) (s : List UInt8) (nd c : Nat), kidsG T acc ys s nd = .error c → c ≠ 0
  | [], acc, s, nd, c, h => by rw [kidsG] at h; cases h
  | y :: ys, acc, s, nd, c, h => by
    rw [kidsG] at h
    cases hq : T y s nd with
    | error e =>
      rw [hq] at h
      injection h with h
      subst h
      exact hT y s nd _ hq
    | ok p =>
      obtain ⟨t, s2, nd2⟩ := p
      rw [hq] at h
      exact kids_err hT ys _ _ _ c h
theorem tree_err (g : PG) : ∀ (f : Nat) (o : Option Int) (s : List UInt8) (nd c : Nat), treeR g f o s nd = .error c → c ≠ 0
  | 0, o, s, nd, c, h => by
    rw [treeR] at h
    injection h with h
    omega
  | f + 1, o, s, nd, c, h => by
    rw [treeR] at h
    cases hq : nodeR g o s nd with
    | error e =>
      rw [hq] at h
      injection h with h
      subst h
      exact node_err hq
    | ok p =>
      obtain ⟨n, j⟩ := p
      rw [hq] at h
      simp only at h
      cases hk : kidsG (fun y => treeR g f (some y)) [] (Tr.sideT g n) (s.drop j) (nd + 1) with
      | error e =>
        rw [hk, wrapK] at h
        injection h with h
        subst h
        exact kids_err (fun y s nd c h => tree_err g f (some y) s nd c h) _ _ _ _ _ hk
      | ok q =>
        obtain ⟨l, s2, nd2⟩ := q
        rw [hk, wrapK] at h
        cases h
theorem get_err {g : PG} {s : List UInt8} {c : Nat} (h : getT g s = .error c) : c ≠ 0 := by
  unfold getT at h
  cases hq : treeR g 65537 none s 0 with
  | error e =>
    rw [hq] at h
    injection h with h
    subst h
    exact tree_err g _ _ _ _ _ hq
  | ok p =>
    obtain ⟨t2, s2, nd2⟩ := p
    rw [hq] at h
    simp only at h
    split at h
    · cases h
    · injection h with h
      omega
def codeR : Except Nat Tr → Nat
  | .error c => c
  | .ok _ => 0
def treeO : Except Nat Tr → Tr
  | .error _ => .mk 0 []
  | .ok t => t
theorem got_of {lo : Nat} {R : Except Nat Tr} {e : Ending} {w' : World} (h : Got lo R e w') : ∃ (n : Int) (A : Option Addr) (m c : Nat), e = .returned (.tuple #[.agg #[.int .i64 n, .slice A m c], .int .i64 (codeR R : Nat)]) ∧ TrAt (fun r => lo ≤ r) w' (treeO R) (.int .i64 n) (.slice A m c) := by
  cases R with
  | error c => exact ⟨0, none, 0, 0, h, Tr.tr_zero _ _⟩
  | ok t =>
    obtain ⟨x, y, h1, h2⟩ := h
    obtain ⟨n, A, m, c, rfl, rfl⟩ := h2.form
    exact ⟨n, A, m, c, h1, h2⟩
/-- What told tells: this tree. -/
def tT (t : Tr) (v : Value) (w : World) : Prop := ∃ (n : Int) (A : Option Addr) (m c : Nat), v = .agg #[.int .i64 n, .slice A m c] ∧ TrAt (fun _ => True) w t (.int .i64 n) (.slice A m c)
theorem tT_st (t : Tr) : LooseD.St (tT t) := fun v w w' h b => by
  obtain ⟨n, A, m, c, h1, h2⟩ := h
  exact ⟨n, A, m, c, h1, h2.under b⟩
theorem told_told {t : Tr} (hs : SmT t) (P : Nat → Prop) (W : World) (x y : Value) (h : TrAt P W t x y) : Calls Try.prog 10 #[.agg #[x, y]] W fun e w' => ∃ v, e = .returned v ∧ Below W.heap.size W w' ∧ tT t v w' := by
  refine (Tr.told_any hs P W x y h).mono ?_
  rintro e w' ⟨n, A, m, c, rfl, h1, h2⟩
  exact ⟨_, rfl, h2, n, A, m, c, rfl, h1.keep (Nat.le_refl _) fun r _ _ => ⟨trivial, fun _ => rfl⟩⟩
theorem same_told {t : Tr} (hs : SmT t) (P : Nat → Prop) (W : World) (v x y : Value) (hv : tT t v W) (h : TrAt P W t x y) : Calls Try.prog 17 #[v, .agg #[x, y]] W fun e w' => e = .returned (.bool true) ∧ Below W.heap.size W w' := by
  obtain ⟨n, A, m, c, rfl, h1⟩ := hv
  refine (Tr.rsamet_any hs t _ P W _ _ x y h1 h).mono ?_
  rintro e w' ⟨rfl, h2⟩
  rw [Tr.same_self]
  exact ⟨rfl, h2⟩

set_option maxHeartbeats 8000000 in
theorem walk_reads (N T St : Int) (left : List Int) (right : List (List Int)) (W : World) (vl vr : Value) (hl : NumsIn W left vl) (hr : RowsIn W right vr) (hlm : left.length ≤ maxLen) (hrm : right.length ≤ maxLen) (hrm2 : ∀ r ∈ right, r.length ≤ maxLen) (tx : ByteArray) (htx : tx.size ≤ maxLen) :
    Calls Try.prog 4 #[.agg #[.int .i64 N, .int .i64 T, .int .i64 St, vl, vr], .string tx] W fun e w' => e = .returned (.bool true) ∧ Below W.heap.size W w' := by
  have HM := Lib.hid (fun w (b : Below W.heap.size W w) => made_any N T St left right w vl vr (hl.under b) (hr.under b) hlm hrm hrm2)
  have HS := Lib.hid (fun w => speaks_any w)
  have htx2 : tx.size ≤ 9223372036854775807 := htx
  obtain ⟨A, c, _, _, rfl, _⟩ := hl
  obtain ⟨Ar, cr, _, _, _, rfl, _⟩ := hr
  obtain ⟨nl, hnl⟩ : ∃ nl, nl = left.length := ⟨_, rfl⟩
  obtain ⟨nr, hnr⟩ : ∃ nr, nr = right.length := ⟨_, rfl⟩
  rw [← hnl, ← hnr] at HM ⊢
  clear hnl hnr hlm hrm hrm2
  have hb0 := (Below.refl W.heap.size W).alloc (Nat.le_refl _) (.cells #[.int .i64 N, .int .i64 T, .int .i64 St, .slice A nl c, .slice Ar nr cr] 25)
  have hx0 := heap_alloc_new W (.cells #[.int .i64 N, .int .i64 T, .int .i64 St, .slice A nl c, .slice Ar nr cr] 25)
  have HB0 := Lib.hid hb0
  have HX0 := Lib.hid hx0
  clear hb0 hx0
  go_enter Try.func4, Try.ntmps4
  go_wp2_with fail
  refine (HS.out _).mono ?_
  rintro e w1 ⟨rfl, b1⟩
  have hb1 := HB0.out.trans (b1.mono HB0.out.size)
  have hx1 := (b1.block W.heap.size (by simp)).trans HX0.out
  have HB1 := Lib.hid hb1
  have x0 := cell_of_row _ _ 0 _ _ (0, 0) hx1
  have x1 := cell_of_row _ _ 1 _ _ (0, 0) hx1
  have x2 := cell_of_row _ _ 2 _ _ (0, 0) hx1
  have x3 := cell_of_row _ _ 3 _ _ (0, 0) hx1
  have x4 := cell_of_row _ _ 4 _ _ (0, 0) hx1
  clear hb1 hx1 b1
  by_cases htl : 500 < tx.size
  · have htl2 : (500 : Int) < (tx.size : Int) := by omega
    go_wp2_with fail
    go_ret
    exact ⟨rfl, HB1.out⟩
  have htl2 : ¬ (500 : Int) < (tx.size : Int) := by omega
  go_wp2_with fail
  refine (HM.out _ HB1.out).mono ?_
  rintro e w2 ⟨v, u, g, rfl, hM, hv, hu, b2⟩
  have hv' := hv
  have hu' := hu
  obtain ⟨An, At_, Ap, cn, ct, cp, rfl, _, _, hP⟩ := hv'.open_
  obtain ⟨Bn, Bt, Bp, dn, dt, dp, rfl, _, _, _⟩ := hu'.open_
  have HMD := Lib.hid hM
  have HV := Lib.hid hv
  have HU := Lib.hid hu
  have HP := Lib.hid hP
  have HB2 := Lib.hid (HB1.out.trans (b2.mono HB1.out.size))
  clear hM hv hv' hu hu' b2 hP
  have HF : g.Fits := HMD.out.fits g.start
  have hsd : soundB g = true := by have := HMD.out.sound g.start; rw [show g.from_ g.start = g from rfl] at this; rw [this, decide_eq_true_iff]; exact HMD.out.start
  have HSD := Lib.hid hsd
  have HFT := Lib.hid HF
  have hn1 := HMD.out.few.1
  have hn8 := HMD.out.few.2.1
  have hlt3 := HMD.out.few.2.2.1
  have hnp := HMD.out.few.2.2.2
  obtain ⟨n, hn⟩ : ∃ n, n = g.names.length := ⟨_, rfl⟩
  obtain ⟨np, hnp'⟩ : ∃ np, np = g.prods.length := ⟨_, rfl⟩
  have HNN := Lib.hid hn
  have HNP := Lib.hid hnp'
  obtain ⟨st, hst⟩ : ∃ st : Nat, g.start = (st : Int) := ⟨g.start.toNat, by have := HMD.out.start.1; omega⟩
  have hstn : st < n := by have := HMD.out.start.2; omega
  have HST := Lib.hid hst
  rw [← hn] at hn1 hn8 ⊢
  rw [← hnp'] at hnp ⊢
  obtain ⟨lt, hlt⟩ : ∃ lt, lt = g.terms.length := ⟨_, rfl⟩
  have HLT := Lib.hid hlt
  rw [← hlt] at hlt3
  rw [← hlt]
  rw [hst]
  have HV2 := Lib.hid (show PgAt (fun q => w1.heap.size ≤ q) w2 g (.agg #[.int .i64 st, .int .i64 g.rules, .slice An n cn, .slice At_ lt ct, .slice Ap np cp]) by rw [hn, hnp', hlt, ← hst]; exact HV.out)
  have HU2 := Lib.hid (show PgAt (fun q => w1.heap.size ≤ q) w2 g (.agg #[.int .i64 st, .int .i64 g.rules, .slice Bn n dn, .slice Bt lt dt, .slice Bp np dp]) by rw [hn, hnp', hlt, ← hst]; exact HU.out)
  have HP2 := Lib.hid (show PrdsAt (fun q => w1.heap.size ≤ q) w2 g.prods (.slice Ap np cp) by rw [hnp']; exact HP.out)
  obtain ⟨ru, hru⟩ : ∃ ru, ru = g.rules := ⟨_, rfl⟩
  rw [← hru] at HV2 HU2 ⊢
  clear HF hsd hn hnp' hlt hst HV HP HU hru
  go_upto_region 6 with fail
  have HBX := Lib.hid (⟨((Below.refl w2.heap.size w2).alloc (Nat.le_refl _) _).alloc (by simp) _, (heap_alloc_old _ _ (by simp)).trans (heap_alloc_new w2 _), heap_new _ _ _ (by simp)⟩ : Below w2.heap.size w2 ((w2.alloc (.cells #[.int .i64 st, .int .i64 ru, .slice An n cn, .slice At_ lt ct, .slice Ap np cp] 31)).alloc (.cells #[.int .i64 st, .int .i64 ru, .slice Bn n dn, .slice Bt lt dt, .slice Bp np dp] 34)) ∧ ((w2.alloc (.cells #[.int .i64 st, .int .i64 ru, .slice An n cn, .slice At_ lt ct, .slice Ap np cp] 31)).alloc (.cells #[.int .i64 st, .int .i64 ru, .slice Bn n dn, .slice Bt lt dt, .slice Bp np dp] 34)).heap[w2.heap.size]? = some (.cells #[.int .i64 st, .int .i64 ru, .slice An n cn, .slice At_ lt ct, .slice Ap np cp] 31 (0, 0)) ∧ ((w2.alloc (.cells #[.int .i64 st, .int .i64 ru, .slice An n cn, .slice At_ lt ct, .slice Ap np cp] 31)).alloc (.cells #[.int .i64 st, .int .i64 ru, .slice Bn n dn, .slice Bt lt dt, .slice Bp np dp] 34)).heap[w2.heap.size + 1]? = some (.cells #[.int .i64 st, .int .i64 ru, .slice Bn n dn, .slice Bt lt dt, .slice Bp np dp] 34 (0, 0)))
  generalize hV : World.alloc (World.alloc w2 _) _ = V
  rw [hV] at HBX
  clear hV
  have HCP := Lib.hid (fun (w : World) (h : Below V.heap.size V w) => (HV2.out.under (HBX.out.1.trans (h.mono HBX.out.1.size))))
  have HCU := Lib.hid (fun (w : World) (h : Below V.heap.size V w) => (HU2.out.under (HBX.out.1.trans (h.mono HBX.out.1.size))))
  have hf6 : Tr.Fit g := ⟨by rw [← HLT.out]; omega, by rw [← HNP.out]; omega⟩
  have HF6 := Lib.hid hf6
  have hget := Tr.get_tree g HFT.out hf6 (side_len2 HMD.out) _ V _ tx htx2 (HCP.out V (Below.refl _ _))
  unfold Tr.getE at hget
  rw [if_pos HSD.out] at hget
  have hrget := fun (w : World) (b : Below V.heap.size V w) => Tr.rget_tree g HMD.out hf6 (side_len2 HMD.out) _ w _ tx (by omega) (HCU.out w b)
  obtain ⟨R, hR⟩ : ∃ R, R = getT g (Oct.bs tx) := ⟨_, rfl⟩
  rw [← hR] at hget
  have hrget2 : ∀ (w : World) (b : Below V.heap.size V w), Calls Try.prog 28 #[.agg #[.int .i64 st, .int .i64 ru, .slice Bn n dn, .slice Bt lt dt, .slice Bp np dp], .string tx] w fun e w' => Got w.heap.size R e w' ∧ Below w.heap.size w w' := fun w b => by rw [hR]; exact hrget w b
  obtain ⟨cc, hcc⟩ : ∃ cc, cc = codeR R := ⟨_, rfl⟩
  obtain ⟨t, ht⟩ : ∃ t, t = treeO R := ⟨_, rfl⟩
  have HGET := Lib.hid (hget.mono fun e w' h => show ∃ (n : Int) (A : Option Addr) (m c : Nat), e = .returned (.tuple #[.agg #[.int .i64 n, .slice A m c], .int .i64 (cc : Nat)]) ∧ TrAt (fun r => V.heap.size ≤ r) w' t (.int .i64 n) (.slice A m c) ∧ Below V.heap.size V w' from (by
    obtain ⟨n, A, m, c, h1, h2⟩ := got_of h.1
    rw [hcc, ht]
    exact ⟨n, A, m, c, h1, h2, h.2⟩))
  have HRGET := Lib.hid (fun (w : World) (b : Below V.heap.size V w) => (hrget2 w b).mono fun e w' h => show ∃ (n : Int) (A : Option Addr) (m c : Nat), e = .returned (.tuple #[.agg #[.int .i64 n, .slice A m c], .int .i64 (cc : Nat)]) ∧ TrAt (fun r => w.heap.size ≤ r) w' t (.int .i64 n) (.slice A m c) ∧ Below w.heap.size w w' from (by
    obtain ⟨n, A, m, c, h1, h2⟩ := got_of h.1
    rw [hcc, ht]
    exact ⟨n, A, m, c, h1, h2, h.2⟩))
  have hall : SmT t ∧ (cc ≠ 0 ∨ (cc = 0 ∧ fitsT g t = true ∧ putT t = Oct.bs tx ∧ nodesT t ≤ 500)) := by
    cases R with
    | error c =>
      rw [ht, hcc]
      exact ⟨smT_of _ (by simp [treeO, nodesT, Tr.nodesL]), .inl (get_err hR.symm)⟩
    | ok t2 =>
      obtain ⟨h1, h2, h3⟩ := Tr.get_back hR.symm
      have h4 : nodesT t2 ≤ 500 := Nat.le_trans h3 (by show tx.size ≤ 500; omega)
      rw [ht, hcc]
      exact ⟨smT_of _ (by show nodesT t2 ≤ _; omega), .inr ⟨rfl, h2, h1.symm, h4⟩⟩
  have HSM := Lib.hid hall.1
  have HAL := Lib.hid hall.2
  clear hget hrget hrget2 hR hcc ht hall hf6
  have y0 := cell_of_row _ _ 0 _ _ (0, 0) HBX.out.2.1
  have y1 := cell_of_row _ _ 1 _ _ (0, 0) HBX.out.2.1
  have y2 := cell_of_row _ _ 2 _ _ (0, 0) HBX.out.2.1
  have y3 := cell_of_row _ _ 3 _ _ (0, 0) HBX.out.2.1
  have y4 := cell_of_row _ _ 4 _ _ (0, 0) HBX.out.2.1
  go_wp2_with fail
  refine HGET.out.mono ?_
  rintro e w3 ⟨n3, A3, m3, c3, rfl, ht3, hb3⟩
  clear y0 y1 y2 y3 y4
  have hvz := Gn.heap_lt HBX.out.2.2
  have h3z := hb3.size
  obtain ⟨V7, hV7⟩ : ∃ V7, V7 = w3.alloc (.cells #[.int .i64 n3, .slice A3 m3 c3] 39) := ⟨_, rfl⟩
  have hb7 : Below w3.heap.size w3 V7 := by rw [hV7]; exact (Below.refl _ _).alloc (Nat.le_refl _) _
  have hx7 : V7.heap[w3.heap.size]? = some (.cells #[.int .i64 n3, .slice A3 m3 c3] 39 (0, 0)) := by rw [hV7]; exact heap_alloc_new _ _
  have hz7 : V7.heap.size = w3.heap.size + 1 := by rw [hV7]; simp
  have HB7 := Lib.hid (hb3.trans (hb7.mono hb3.size))
  have HX7 := Lib.hid hx7
  have HT7 := Lib.hid (ht3.under hb7)
  have HV7 := Lib.hid hV7
  have hu7 := (HB7.out.block _ hvz).trans HBX.out.2.2
  have z0 := cell_of_row _ _ 0 _ _ (0, 0) hu7
  have z1 := cell_of_row _ _ 1 _ _ (0, 0) hu7
  have z2 := cell_of_row _ _ 2 _ _ (0, 0) hu7
  have z3 := cell_of_row _ _ 3 _ _ (0, 0) hu7
  have z4 := cell_of_row _ _ 4 _ _ (0, 0) hu7
  clear hb3 ht3 hb7 hx7 hV7 hu7
  go_upto_region 7 with fail
  rw [← HV7.out]
  go_wp2_with fail
  refine (HRGET.out V7 HB7.out).mono ?_
  rintro e w4 ⟨n4, A4, m4, c4, rfl, ht4, hb4⟩
  clear z0 z1 z2 z3 z4
  obtain ⟨V8, hV8⟩ : ∃ V8, V8 = w4.alloc (.cells #[.int .i64 n4, .slice A4 m4 c4] 43) := ⟨_, rfl⟩
  have hb8 : Below w4.heap.size w4 V8 := by rw [hV8]; exact (Below.refl _ _).alloc (Nat.le_refl _) _
  have hx8 : V8.heap[w4.heap.size]? = some (.cells #[.int .i64 n4, .slice A4 m4 c4] 43 (0, 0)) := by rw [hV8]; exact heap_alloc_new _ _
  have hb78 := hb4.trans (hb8.mono hb4.size)
  have HX8 := Lib.hid hx8
  have HX78 := Lib.hid ((hb78.block _ (Gn.heap_lt HX7.out)).trans HX7.out)
  have HB8 := Lib.hid (HB7.out.trans (hb78.mono HB7.out.size))
  have HT8 := Lib.hid (HT7.out.under hb78)
  have HU8 := Lib.hid (ht4.under hb8)
  have HV8 := Lib.hid hV8
  have e1 : ((cc : Int) != (cc : Int)) = false := by simp
  clear hb4 ht4 hb8 hx8 hb78 hV8
  go_upto_region 8 with fail
  rw [← HV8.out]
  refine LooseD.region_loose (fun w => Below V8.heap.size V8 w ∧ w.heap[w3.heap.size]? = some (.cells #[.int .i64 n3, .slice A3 m3 c3] 39 (0, 0)) ∧ w.heap[w4.heap.size]? = some (.cells #[.int .i64 n4, .slice A4 m4 c4] 43 (0, 0))) _ _ (by kernel_rfl) (by kernel_rfl)
    (LooseD.waits (D := [[], [], [], [], [], [], [], [5], [], []]) (by kernel_rfl))
    (LooseD.stays (ts := [none, none, none, none, none, some (.told (tT t)), none, some (.is (.bool true)), none, none]) (fun w w' h b => ⟨h.1.trans (b.mono h.1.size), (b.block _ (Gn.heap_lt h.2.1)).trans h.2.1, (b.block _ (Gn.heap_lt h.2.2)).trans h.2.2⟩) (.none (.none (.none (.none (.none (.told (tT_st t) (.none (.is (.none (.none .nil)))))))))))
    ⟨(Below.refl _ _).drew, HX78.out, HX8.out⟩ ?_
  refine LooseD.reads (.int .i64 (cc : Nat)) rfl rfl ?_ ?_
  · intro w hw
    clear hw
    go_simp
  try simp only [Act.put, List.setIfInBounds_toArray, List.set_cons_zero, List.set_cons_succ]
  refine LooseD.reads (.int .i64 (cc : Nat)) rfl rfl ?_ ?_
  · intro w hw
    clear hw
    go_simp
  try simp only [Act.put, List.setIfInBounds_toArray, List.set_cons_zero, List.set_cons_succ]
  refine LooseD.reads (.bool false) rfl rfl ?_ ?_
  · intro w hw
    clear hw
    go_simp
  try simp only [Act.put, List.setIfInBounds_toArray, List.set_cons_zero, List.set_cons_succ]
  refine LooseD.reads (.bool false) rfl rfl ?_ ?_
  · intro w hw
    clear hw
    go_simp
  try simp only [Act.put, List.setIfInBounds_toArray, List.set_cons_zero, List.set_cons_succ]
  refine LooseD.reads (.agg #[.int .i64 n3, .slice A3 m3 c3]) rfl rfl ?_ ?_
  · intro w hw
    have y0 := cell_of_row _ _ 0 _ _ (0, 0) hw.2.1
    have y1 := cell_of_row _ _ 1 _ _ (0, 0) hw.2.1
    clear hw
    go_simp
  try simp only [Act.put, List.setIfInBounds_toArray, List.set_cons_zero, List.set_cons_succ]
  refine LooseD.calls (tT t) 10 #[.agg #[.int .i64 n3, .slice A3 m3 c3]] rfl rfl ?_ (fun w hw _ => told_told HSM.out _ w _ _ (HT8.out.under hw.1)) (fun v5 => ?_)
  · intro w hw
    clear hw
    go_simp
  try simp only [Act.put, List.setIfInBounds_toArray, List.set_cons_zero, List.set_cons_succ]
  refine LooseD.reads (.agg #[.int .i64 n4, .slice A4 m4 c4]) rfl rfl ?_ ?_
  · intro w hw
    have y0 := cell_of_row _ _ 0 _ _ (0, 0) hw.2.2
    have y1 := cell_of_row _ _ 1 _ _ (0, 0) hw.2.2
    clear hw
    go_simp
  try simp only [Act.put, List.setIfInBounds_toArray, List.set_cons_zero, List.set_cons_succ]
  refine LooseD.gives (.bool true) 17 #[v5, .agg #[.int .i64 n4, .slice A4 m4 c4]] rfl rfl ?_ (fun w hw hH => same_told HSM.out _ w v5 _ _ (hH 5 (by decide) v5 _ rfl rfl) (HU8.out.under hw.1)) ?_
  · intro w hw
    clear hw
    go_simp
  try simp only [Act.put, List.setIfInBounds_toArray, List.set_cons_zero, List.set_cons_succ]
  refine LooseD.reads (.bool false) rfl rfl ?_ ?_
  · intro w hw
    clear hw
    go_simp
  try simp only [Act.put, List.setIfInBounds_toArray, List.set_cons_zero, List.set_cons_succ]
  refine LooseD.reads (.bool false) rfl rfl ?_ ?_
  · intro w hw
    clear hw
    go_simp
  try simp only [Act.put, List.setIfInBounds_toArray, List.set_cons_zero, List.set_cons_succ]
  refine LooseD.done ?_
  intro w9 hw9 hF
  have HB9 := Lib.hid (HB8.out.trans (hw9.1.mono HB8.out.size))
  have hx9 := hw9.2.1
  have HT9 := Lib.hid (HT8.out.under hw9.1)
  clear hF hw9
  have HBF := Lib.hid (HB2.out.trans ((HBX.out.1.trans (HB9.out.mono HBX.out.1.size)).mono HB2.out.size))
  rcases HAL.out with hcz | ⟨hcz, hfit, hput, hnod⟩
  · have e2 : ((cc : Int) != 0) = true := by rw [bne_iff_ne]; omega
    go_wp2_with fail
    go_ret
    exact ⟨rfl, HBF.out⟩
  · have e2 : ((cc : Int) != 0) = false := by rw [bne_eq_false_iff_eq]; omega
    have HCK := Lib.hid ((Tr.check_any g HFT.out HF6.out HSM.out _ _ w9 _ _ _ HT9.out (HCP.out w9 HB9.out)).mono fun e w' h => show e = .returned (.bool true) ∧ Below w9.heap.size w9 w' from (by
      have e1 : Tr.checkB g t = true := by unfold Tr.checkB; rw [HSD.out, hfit]; rfl
      rw [e1] at h
      exact h))
    have HPU := Lib.hid (fun (w : World) (b : Below w9.heap.size w9 w) => (Tr.putt_any HSM.out (by omega) _ w _ _ (HT9.out.under b)).mono fun e w' h => show e = .returned (.string tx) ∧ Below w.heap.size w w' from (by
      rw [hput] at h
      exact h))
    have hy9 := (HB9.out.block _ (Gn.heap_lt HBX.out.2.1)).trans HBX.out.2.1
    have y0 := cell_of_row _ _ 0 _ _ (0, 0) hy9
    have y1 := cell_of_row _ _ 1 _ _ (0, 0) hy9
    have y2 := cell_of_row _ _ 2 _ _ (0, 0) hy9
    have y3 := cell_of_row _ _ 3 _ _ (0, 0) hy9
    have y4 := cell_of_row _ _ 4 _ _ (0, 0) hy9
    have t0 := cell_of_row _ _ 0 _ _ (0, 0) hx9
    have t1 := cell_of_row _ _ 1 _ _ (0, 0) hx9
    have HX9 := Lib.hid hx9
    clear hput hfit hy9 hx9
    subst hcz
    go_wp2_with fail
    refine HCK.out.mono ?_
    rintro e w10 ⟨rfl, hb10⟩
    have hx10 := (hb10.block _ (Gn.heap_lt HX9.out)).trans HX9.out
    clear y0 y1 y2 y3 y4 t0 t1
    have t0 := cell_of_row _ _ 0 _ _ (0, 0) hx10
    have t1 := cell_of_row _ _ 1 _ _ (0, 0) hx10
    have HB10 := Lib.hid hb10
    clear hx10 hb10
    go_wp2_with fail
    refine (HPU.out w10 HB10.out).mono ?_
    rintro e w11 ⟨rfl, hb11⟩
    have HBG := Lib.hid (HBF.out.trans (((HB10.out.trans (hb11.mono HB10.out.size))).mono HBF.out.size))
    clear hb11
    go_wp2_with fail
    go_ret
    exact ⟨by simp, HBG.out⟩
end Go.Proofs.Ytjlppffkacimoaa.Fx
