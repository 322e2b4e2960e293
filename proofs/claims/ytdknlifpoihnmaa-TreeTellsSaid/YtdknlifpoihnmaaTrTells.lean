/-
  Layer 14: the walk of TreeTells.
-/
import Derived.Deep.DeepCutAuto
import Derived.Test.YtdknlifpoihnmaaTrMadeW
import Derived.Test.YtdknlifpoihnmaaTrL
import Derived.Test.YtdknlifpoihnmaaTrM
import Derived.Test.YtdknlifpoihnmaaTrBlt
import Derived.Test.YtdknlifpoihnmaaTrTxt
import Derived.Test.YtdknlifpoihnmaaTrSame
import Derived.Test.YtdknlifpoihnmaaTrRSame
import Derived.Test.YtdknlifpoihnmaaTrYield
import Derived.Test.YtdknlifpoihnmaaTrPut
import Derived.Test.YtdknlifpoihnmaaTrSm
import Derived.Test.YtdknlifpoihnmaaTrMd
namespace Go.Proofs.Ytdknlifpoihnmaa.Tr
open Go.RowKit
open Fx (Prd PG Made soundB)
set_option maxRecDepth 100000
set_option linter.unusedSimpArgs false
set_option linter.unusedVariables false
theorem term_is9 {g : PG} (h : Made g) (k : Nat) : termT g k = ⟨#[]⟩ ∨ ∃ i, i < 3 ∧ termT g k = Fx.letter 97 i := by
  unfold termT
  rw [List.getD_eq_getElem?_getD]
  rcases Nat.lt_or_ge k g.terms.length with h0 | h0
  · right
    rw [List.getElem?_eq_getElem h0]
    have h3 := h.few.2.2.1
    refine ⟨k, by omega, ?_⟩
    have e : g.terms[k] = ((List.range g.terms.length).map (Fx.letter 97))[k]'(by simpa using h0) := by
      have := h.terms
      simp only [← this]
    simp [e]
  · left
    rw [List.getElem?_eq_none h0]; rfl
theorem quo_len9 {g : PG} (h : Made g) (k : Nat) : 0 < (quoT (termT g k)).length ∧ (quoT (termT g k)).length ≤ 6 := by
  rcases term_is9 h k with e | ⟨i, hi, e⟩
  · rw [e]; decide +kernel
  · rw [e]
    match i, hi with
    | 0, _ => decide +kernel
    | 1, _ => decide +kernel
    | 2, _ => decide +kernel
theorem name_len9 {g : PG} (h : Made g) (n : Int) : (nameT g n).data.toList.length ≤ 1 := by
  unfold nameT
  rw [List.getD_eq_getElem?_getD]
  rcases Nat.lt_or_ge (leftT g n).toNat g.names.length with h0 | h0
  · rw [List.getElem?_eq_getElem h0]
    have := h.text _ (.inl (List.getElem_mem h0))
    have e : (g.names[(leftT g n).toNat]).size = (g.names[(leftT g n).toNat]).data.toList.length := rfl
    show (g.names[(leftT g n).toNat]).data.toList.length ≤ 1
    omega
  · rw [List.getElem?_eq_none h0]
    exact Nat.zero_le _
mutual
theorem text_len9 {g : PG} (h : Made g) : ∀ t : Tr, 0 < (textT g t).length ∧ (textT g t).length + 1 ≤ 9 * nodesT t
  | .mk n l => by
    rw [textT, nodesT]
    split
    · have := quo_len9 h (-1 - n).toNat
      omega
    · have h1 := name_len9 h n
      have h2 := texts_len9 h l
      simp only [List.length_cons, List.length_append, List.length_nil]
      omega
theorem texts_len9 {g : PG} (h : Made g) : ∀ l : List Tr, (textL g l).length ≤ 9 * nodesL l
  | [] => by simp [textL]
  | a :: r => by
    rw [textL, nodesL, List.length_cons, List.length_append]
    have := text_len9 h a
    have := texts_len9 h r
    have := nodes_pos a
    omega
end
theorem made_wr {g : PG} (h : Made g) : Fit g ∧ Wr g ∧ ∀ s ∈ g.names, s.size ≤ 200000 := by
  obtain ⟨h1, h2, h3, h4⟩ := h.few
  exact ⟨⟨by omega, by omega⟩, ⟨⟨by omega, by omega⟩, by omega, h.left, fun s hs => by have := h.text s (.inr hs); omega⟩, fun s hs => by have := h.text s (.inl hs); omega⟩
end Go.Proofs.Ytdknlifpoihnmaa.Tr
namespace Go.Proofs.Ytdknlifpoihnmaa.Fx
open Go.RowKit
set_option maxRecDepth 100000
set_option linter.unusedSimpArgs false
set_option linter.unusedVariables false
open Tr (Tr TrAt nodesT deepT SmT smT_of fitsT putT prodT yieldT textT textE sameT checkB speaks_any PrsIn Num Fine InT Two Half Both TV)
open Gn (Sep)
theorem side_len3 {g : PG} (hM : Made g) (n : Int) : (Tr.sideT g n).length ≤ 1099511627776 := by
  unfold Tr.sideT
  split
  · simp
  · split
    · rename_i h
      have := hM.short _ (List.getElem_mem h)
      omega
    · simp


theorem in_of_fine {t : Tr} (h : Fine t) : InT t := fun n hn h0 => by
  have := h n hn
  unfold Num at this
  exact IntWalk.i64_in _ (by omega)
theorem out_str {s : ByteArray} {l : List UInt8} (h : Oct.bs s = l) : s = ⟨l.toArray⟩ := by
  subst h
  simp [Oct.bs]
/-- What is told of a row: these numbers. -/
def tN (l : List Int) (v : Value) (w : World) : Prop := IntsAt (fun _ => True) w l v
theorem tN_st (l : List Int) : LooseD.St (tN l) := fun v w w' h b => IntsAt.under h b
theorem tN_of {l : List Int} {f : FuncId} {args : Array Value} {w : World} (h : Calls Try.prog f args w fun e w' => ∃ v, e = .returned v ∧ IntsAt (fun r => w.heap.size ≤ r) w' l v ∧ Below w.heap.size w w') : Calls Try.prog f args w fun e w' => ∃ v, e = .returned v ∧ Below w.heap.size w w' ∧ tN l v w' := by
  refine h.mono ?_
  rintro e w' ⟨v, rfl, h1, h2⟩
  exact ⟨v, rfl, h2, h1.keep (Nat.le_refl _) fun r _ _ => ⟨trivial, fun _ => rfl⟩⟩
theorem num_told {l : List Int} (hn : l.length ≤ 1099511627776) (w : World) (v u : Value) (hv : tN l v w) (hu : tN l u w) : Calls Try.prog 18 #[v, u] w fun e w' => e = .returned (.bool true) ∧ Below w.heap.size w w' := by
  have := Tr.numbers_any l l hn hn _ _ w v u hv hu
  rwa [decide_eq_true rfl] at this

set_option maxHeartbeats 16000000 in
theorem walk_tells (N T St : Int) (left : List Int) (right : List (List Int)) (W : World) (vl vr : Value) (hl : NumsIn W left vl) (hr : RowsIn W right vr) (hlm : left.length ≤ maxLen) (hrm : right.length ≤ maxLen) (hrm2 : ∀ r ∈ right, r.length ≤ maxLen) (la lb : List (Int × Int)) (va vb : Value) (ha : PrsIn W la va) (hb : PrsIn W lb vb) (ham : la.length ≤ maxLen) (hbm : lb.length ≤ maxLen) (han : ∀ p ∈ la, Num p.1) (hbn : ∀ p ∈ lb, Num p.1) :
    Calls Try.prog 3 #[.agg #[.int .i64 N, .int .i64 T, .int .i64 St, vl, vr], va, vb] W fun e w' => e = .returned (.bool true) ∧ Below W.heap.size W w' := by
  have HM := Lib.hid (fun w (b : Below W.heap.size W w) => made_any N T St left right w vl vr (hl.under b) (hr.under b) hlm hrm hrm2)
  have HS := Lib.hid (fun w => speaks_any w)
  have HBA := Lib.hid (fun (w : World) (b : Below W.heap.size W w) => Tr.built_any la w va (prs_under ha b) han ham)
  have HBB := Lib.hid (fun (w : World) (b : Below W.heap.size W w) => Tr.built_any lb w vb (prs_under hb b) hbn hbm)
  obtain ⟨Aa, ca, _, _, rfl, _⟩ := ha
  obtain ⟨Ab, cb, _, _, rfl, _⟩ := hb
  obtain ⟨na, hna⟩ : ∃ na, na = la.length := ⟨_, rfl⟩
  obtain ⟨nb, hnb⟩ : ∃ nb, nb = lb.length := ⟨_, rfl⟩
  rw [← hna] at HBA ⊢
  rw [← hnb] at HBB ⊢
  clear hna hnb ham hbm han hbn
  obtain ⟨A, c, _, _, rfl, _⟩ := hl
  obtain ⟨Ar, cr, _, _, _, rfl, _⟩ := hr
  obtain ⟨nl, hnl⟩ : ∃ nl, nl = left.length := ⟨_, rfl⟩
  obtain ⟨nr, hnr⟩ : ∃ nr, nr = right.length := ⟨_, rfl⟩
  rw [← hnl, ← hnr] at HM ⊢
  clear hnl hnr hlm hrm hrm2
  have hb0 := (Below.refl W.heap.size W).alloc (Nat.le_refl _) (.cells #[.int .i64 N, .int .i64 T, .int .i64 St, .slice A nl c, .slice Ar nr cr] 25)
  have hx0 := heap_alloc_new W (.cells #[.int .i64 N, .int .i64 T, .int .i64 St, .slice A nl c, .slice Ar nr cr] 25)
  have HB0 := Lib.hid hb0
  have HX0 := Lib.hid hx0
  clear hb0 hx0
  go_enter Try.func3, Try.ntmps3
  go_wp2_with fail
  refine (HS.out _).mono ?_
  rintro e w1 ⟨rfl, b1⟩
  have hb1 := HB0.out.trans (b1.mono HB0.out.size)
  have hx1 := (b1.block W.heap.size (by simp)).trans HX0.out
  have HB1 := Lib.hid hb1
  have x0 := cell_of_row _ _ 0 _ _ (0, 0) hx1
  have x1 := cell_of_row _ _ 1 _ _ (0, 0) hx1
  have x2 := cell_of_row _ _ 2 _ _ (0, 0) hx1
  have x3 := cell_of_row _ _ 3 _ _ (0, 0) hx1
  have x4 := cell_of_row _ _ 4 _ _ (0, 0) hx1
  clear hb1 hx1 b1
  go_wp2_with fail
  refine (HM.out _ HB1.out).mono ?_
  rintro e w2 ⟨v, u, g, rfl, hM, hv, hu, b2⟩
  have hv' := hv
  have hu' := hu
  obtain ⟨An, At_, Ap, cn, ct, cp, rfl, _, _, hP⟩ := hv'.open_
  obtain ⟨Bn, Bt, Bp, dn, dt, dp, rfl, _, _, _⟩ := hu'.open_
  have HMD := Lib.hid hM
  have HV := Lib.hid hv
  have HU := Lib.hid hu
  have HP := Lib.hid hP
  have HB2 := Lib.hid (HB1.out.trans (b2.mono HB1.out.size))
  clear hM hv hv' hu hu' b2 hP
  have HF : g.Fits := HMD.out.fits g.start
  have hsd : soundB g = true := by have := HMD.out.sound g.start; rw [show g.from_ g.start = g from rfl] at this; rw [this, decide_eq_true_iff]; exact HMD.out.start
  have HSD := Lib.hid hsd
  have HFT := Lib.hid HF
  have hn1 := HMD.out.few.1
  have hn8 := HMD.out.few.2.1
  have hlt3 := HMD.out.few.2.2.1
  have hnp := HMD.out.few.2.2.2
  obtain ⟨n, hn⟩ : ∃ n, n = g.names.length := ⟨_, rfl⟩
  obtain ⟨np, hnp'⟩ : ∃ np, np = g.prods.length := ⟨_, rfl⟩
  have HNN := Lib.hid hn
  have HNP := Lib.hid hnp'
  obtain ⟨st, hst⟩ : ∃ st : Nat, g.start = (st : Int) := ⟨g.start.toNat, by have := HMD.out.start.1; omega⟩
  have hstn : st < n := by have := HMD.out.start.2; omega
  have HST := Lib.hid hst
  rw [← hn] at hn1 hn8 ⊢
  rw [← hnp'] at hnp ⊢
  obtain ⟨lt, hlt⟩ : ∃ lt, lt = g.terms.length := ⟨_, rfl⟩
  have HLT := Lib.hid hlt
  rw [← hlt] at hlt3
  rw [← hlt]
  rw [hst]
  have HV2 := Lib.hid (show PgAt (fun q => w1.heap.size ≤ q) w2 g (.agg #[.int .i64 st, .int .i64 g.rules, .slice An n cn, .slice At_ lt ct, .slice Ap np cp]) by rw [hn, hnp', hlt, ← hst]; exact HV.out)
  have HU2 := Lib.hid (show PgAt (fun q => w1.heap.size ≤ q) w2 g (.agg #[.int .i64 st, .int .i64 g.rules, .slice Bn n dn, .slice Bt lt dt, .slice Bp np dp]) by rw [hn, hnp', hlt, ← hst]; exact HU.out)
  have HP2 := Lib.hid (show PrdsAt (fun q => w1.heap.size ≤ q) w2 g.prods (.slice Ap np cp) by rw [hnp']; exact HP.out)
  obtain ⟨ru, hru⟩ : ∃ ru, ru = g.rules := ⟨_, rfl⟩
  rw [← hru] at HV2 HU2 ⊢
  clear HF hsd hn hnp' hlt hst HV HP HU hru
  go_upto_region 4 with fail
  have HBX := Lib.hid (⟨((Below.refl w2.heap.size w2).alloc (Nat.le_refl _) _).alloc (by simp) _, (heap_alloc_old _ _ (by simp)).trans (heap_alloc_new w2 _), heap_new _ _ _ (by simp)⟩ : Below w2.heap.size w2 ((w2.alloc (.cells #[.int .i64 st, .int .i64 ru, .slice An n cn, .slice At_ lt ct, .slice Ap np cp] 31)).alloc (.cells #[.int .i64 st, .int .i64 ru, .slice Bn n dn, .slice Bt lt dt, .slice Bp np dp] 34)) ∧ ((w2.alloc (.cells #[.int .i64 st, .int .i64 ru, .slice An n cn, .slice At_ lt ct, .slice Ap np cp] 31)).alloc (.cells #[.int .i64 st, .int .i64 ru, .slice Bn n dn, .slice Bt lt dt, .slice Bp np dp] 34)).heap[w2.heap.size]? = some (.cells #[.int .i64 st, .int .i64 ru, .slice An n cn, .slice At_ lt ct, .slice Ap np cp] 31 (0, 0)) ∧ ((w2.alloc (.cells #[.int .i64 st, .int .i64 ru, .slice An n cn, .slice At_ lt ct, .slice Ap np cp] 31)).alloc (.cells #[.int .i64 st, .int .i64 ru, .slice Bn n dn, .slice Bt lt dt, .slice Bp np dp] 34)).heap[w2.heap.size + 1]? = some (.cells #[.int .i64 st, .int .i64 ru, .slice Bn n dn, .slice Bt lt dt, .slice Bp np dp] 34 (0, 0)))
  generalize hV : World.alloc (World.alloc w2 _) _ = V
  rw [hV] at HBX
  clear hV
  have HCP := Lib.hid (fun (w : World) (h : Below V.heap.size V w) => (HV2.out.under (HBX.out.1.trans (h.mono HBX.out.1.size))))
  have HCU := Lib.hid (fun (w : World) (h : Below V.heap.size V w) => (HU2.out.under (HBX.out.1.trans (h.mono HBX.out.1.size))))
  have HBW := Lib.hid (HB2.out.trans (HBX.out.1.mono HB2.out.size))
  go_wp2_with fail
  refine (HBA.out V HBW.out).mono ?_
  rintro e w3 ⟨t, n3, A3, m3, c3, rfl, ht3, hn3, hf3, hb3⟩
  have HT3 := Lib.hid ht3
  have HB3 := Lib.hid hb3
  have HF3 := Lib.hid (in_of_fine hf3)
  have HSM := Lib.hid (smT_of t (by omega))
  clear ht3 hb3 hf3
  go_wp2_with fail
  refine (HBB.out w3 (HBW.out.trans (HB3.out.mono HBW.out.size))).mono ?_
  rintro e w4 ⟨u, n4, A4, m4, c4, rfl, ht4, hn4, hf4, hb4⟩
  have HT4 := Lib.hid ht4
  have HB4 := Lib.hid (HB3.out.trans (hb4.mono HB3.out.size))
  have HB34 := Lib.hid hb4
  have HSU := Lib.hid (smT_of u (by omega))
  clear ht4 hb4 hf4
  obtain ⟨V5, hV5⟩ : ∃ V5, V5 = (w4.alloc (.cells #[.int .i64 n3, .slice A3 m3 c3] 39)).alloc (.cells #[.int .i64 n4, .slice A4 m4 c4] 39) := ⟨_, rfl⟩
  have hb5 : Below w4.heap.size w4 V5 := by rw [hV5]; exact ((Below.refl _ _).alloc (Nat.le_refl _) _).alloc (by simp) _
  have hx5 : V5.heap[w4.heap.size]? = some (.cells #[.int .i64 n3, .slice A3 m3 c3] 39 (0, 0)) := by rw [hV5]; exact (heap_alloc_old _ _ (by simp)).trans (heap_alloc_new _ _)
  have hy5 : V5.heap[w4.heap.size + 1]? = some (.cells #[.int .i64 n4, .slice A4 m4 c4] 39 (0, 0)) := by rw [hV5]; exact heap_new _ _ _ (by simp)
  have HV5 := Lib.hid hV5
  have HX5 := Lib.hid hx5
  have HY5 := Lib.hid hy5
  have HT5 := Lib.hid ((HT3.out.under HB34.out).under hb5)
  have HU5 := Lib.hid (HT4.out.under hb5)
  have HB5 := Lib.hid (HB4.out.trans (hb5.mono HB4.out.size))
  clear hV5 hx5 hy5 hb5
  go_upto_region 5 with fail
  rw [← HV5.out]
  have HSS := Lib.hid (fun (w' : World) (b : Below V5.heap.size V5 w') => show (fun w' : World => w'.cell? ⟨w4.heap.size, 0, none⟩ = some (.int .i64 n3) ∧ w'.cell? ⟨w4.heap.size, 1, none⟩ = some (.slice A3 m3 c3) ∧ w'.cell? ⟨w4.heap.size + 1, 0, none⟩ = some (.int .i64 n4) ∧ w'.cell? ⟨w4.heap.size + 1, 1, none⟩ = some (.slice A4 m4 c4)) w' from ⟨cell_of_row _ _ 0 _ _ (0, 0) ((b.block _ (Gn.heap_lt HX5.out)).trans HX5.out), cell_of_row _ _ 1 _ _ (0, 0) ((b.block _ (Gn.heap_lt HX5.out)).trans HX5.out), cell_of_row _ _ 0 _ _ (0, 0) ((b.block _ (Gn.heap_lt HY5.out)).trans HY5.out), cell_of_row _ _ 1 _ _ (0, 0) ((b.block _ (Gn.heap_lt HY5.out)).trans HY5.out)⟩)
  have HTO1 := Lib.hid (fun (w : World) (b : Below V5.heap.size V5 w) => Tr.told_any HSM.out _ w _ _ (HT5.out.under b))
  have HTO2 := Lib.hid (fun (w : World) (b : Below V5.heap.size V5 w) => Tr.told_any HSU.out _ w _ _ (HU5.out.under b))
  have HK0 := Lib.hid (Two.start 43 V5 V5.drew t u (Gn.below_drew (Below.refl _ _)))
  go_cut [11, 12] from 28 to 31 (fun s11 s12 wx => ∃ (q1 q2 : Nat) (v1 v2 : TV), s11 = .pointer (some ⟨q1, 0, none⟩) ∧ s12 = .pointer (some ⟨q2, 0, none⟩) ∧ Both 43 V5 wx t u v1 v2 q1 q2)
  case first =>
    refine wp_region_noPanic ?_
    refine wp_region_held_drew (S := (fun w' : World => w'.cell? ⟨w4.heap.size, 0, none⟩ = some (.int .i64 n3) ∧ w'.cell? ⟨w4.heap.size, 1, none⟩ = some (.slice A3 m3 c3) ∧ w'.cell? ⟨w4.heap.size + 1, 0, none⟩ = some (.int .i64 n4) ∧ w'.cell? ⟨w4.heap.size + 1, 1, none⟩ = some (.slice A4 m4 c4))) (by kernel_rfl) ?_ (fun hHeld => ?_)
    · exact HSS.out _ (Gn.below_drew (Below.refl _ _))
    generalize hVd : World.drew V5 = Vd at *
    clear hVd
    refine wpAnyH_take (i := 0) (v := ?_) rfl (by kernel_rfl) (by kernel_rfl) (by kernel_rfl) (fun _ _ _ h => h) (Or.inl ⟨by rfl, ?_⟩) (by assumption) ?_
    rotate_left
    · intro w hSw
      try dsimp only at hSw
      go_simp
      try with_reducible rfl
    try simp only [Act.put, List.setIfInBounds_toArray, List.set_cons_zero, List.set_cons_succ]
    refine wpAnyH_take (i := 2) (v := ?_) rfl (by kernel_rfl) (by kernel_rfl) (by kernel_rfl) (fun _ _ _ h => h) (Or.inl ⟨by rfl, ?_⟩) (by assumption) ?_
    rotate_left
    · intro w hSw
      try dsimp only at hSw
      go_simp
      try with_reducible rfl
    try simp only [Act.put, List.setIfInBounds_toArray, List.set_cons_zero, List.set_cons_succ]
    refine wpAnyH_ready (rs := [1, 4, 5]) (by kernel_rfl) (by simp) ?_
    refine AllReadyH.cons rfl (fun K hK => ?_) ?_
    · go_simp
      go_at_call 10
      refine (HTO1.out _ HK0.out.bel).mono ?_
      rintro e x1 ⟨n1_, A1_, m1_, c1_, rfl, ht, hb⟩
      have HK1 := Lib.hid (Two.told1 HK0.out _ _ _ _ ht hb)
      clear ht hb
      refine hK.out _ _ (HSS.out _ HK1.out.bel) (fun hHeld => ?_)
      clear hK K
      try simp only [Act.put, List.setIfInBounds_toArray, List.set_cons_zero, List.set_cons_succ]
      refine wpAnyH_ready (rs := [3, 4, 5]) (by kernel_rfl) (by simp) ?_
      refine AllReadyH.cons rfl (fun K hK => ?_) ?_
      · go_simp
        go_at_call 10
        refine (HTO2.out _ HK1.out.bel).mono ?_
        rintro e x2 ⟨n2_, A2_, m2_, c2_, rfl, ht, hb⟩
        have HK2 := Lib.hid (Two.told2 HK1.out _ _ _ _ ht hb)
        clear ht hb
        refine hK.out _ _ (HSS.out _ HK2.out.bel) (fun hHeld => ?_)
        clear hK K
        try simp only [Act.put, List.setIfInBounds_toArray, List.set_cons_zero, List.set_cons_succ]
        refine wpAnyH_ready (rs := [4, 5]) (by kernel_rfl) (by simp) ?_
        refine AllReadyH.cons rfl (fun K hK => ?_) ?_
        · go_simp
          have HK3 := Lib.hid (Two.al1 HK2.out)
          refine hK.out _ _ (HSS.out _ HK3.out.bel) (fun hHeld => ?_)
          clear hK K
          try simp only [Act.put, List.setIfInBounds_toArray, List.set_cons_zero, List.set_cons_succ]
          generalize hWa3 : World.alloc _ (.cells #[.int .i64 0, .slice none 0 0] 43) = x3 at *
          clear hWa3
          refine wpAnyH_ready (rs := [5]) (by kernel_rfl) (by simp) ?_
          refine AllReadyH.cons rfl (fun K hK => ?_) AllReadyH.nil
          go_simp
          have HK4 := Lib.hid (Two.al2 HK3.out)
          refine hK.out _ _ (HSS.out _ HK4.out.bel) (fun hHeld => ?_)
          clear hK K
          try simp only [Act.put, List.setIfInBounds_toArray, List.set_cons_zero, List.set_cons_succ]
          generalize hWa4 : World.alloc _ (.cells #[.int .i64 0, .slice none 0 0] 43) = x4 at *
          clear hWa4
          obtain ⟨lq1, bq1⟩ := HK4.out.bx1 _ rfl
          have k0 := cell_of_row _ _ 0 _ _ (0, 0) bq1
          have k1 := cell_of_row _ _ 1 _ _ (0, 0) bq1
          have f0 := Gn.frozen_row bq1 0
          have f1 := Gn.frozen_row bq1 1
          refine wpAnyH_ready (rs := [6]) (by kernel_rfl) (by simp) ?_
          refine AllReadyH.cons rfl (fun K hK => ?_) AllReadyH.nil
          go_simp
          refine hK.out _ _ (HSS.out _ (Two.half HK4.out).bel) (fun hHeld => ?_)
          clear hK K
          try simp only [Act.put, List.setIfInBounds_toArray, List.set_cons_zero, List.set_cons_succ]
          have HHF := Lib.hid (Two.half HK4.out)
          dsimp only at HHF
          generalize hWs : World.setCell (World.setCell _ _ _) _ _ = Ws at *
          clear k0 k1 f0 f1 hWs bq1
          have k0 := cell_of_row _ _ 0 _ _ (0, 0) HHF.out.bx2
          have k1 := cell_of_row _ _ 1 _ _ (0, 0) HHF.out.bx2
          have f0 := Gn.frozen_row HHF.out.bx2 0
          have f1 := Gn.frozen_row HHF.out.bx2 1
          refine wpAnyH_ready (rs := [7]) (by kernel_rfl) (by simp) ?_
          refine AllReadyH.cons rfl (fun K hK => ?_) AllReadyH.nil
          go_simp
          refine hK.out _ _ (HSS.out _ (Half.both HHF.out).bel) (fun hHeld => ?_)
          clear hK K
          try simp only [Act.put, List.setIfInBounds_toArray, List.set_cons_zero, List.set_cons_succ]
          refine wpAnyH_done (by kernel_rfl) ?_ _
          refine NoPanic.normal ?_
          go_wp2_with fail
          go_meet
          case rel => exact ⟨_, _, _, _, rfl, rfl, Half.both HHF.out⟩
        refine AllReadyH.cons rfl (fun K hK => ?_) AllReadyH.nil
        · go_simp
          have HK3 := Lib.hid (Two.al2 HK2.out)
          refine hK.out _ _ (HSS.out _ HK3.out.bel) (fun hHeld => ?_)
          clear hK K
          try simp only [Act.put, List.setIfInBounds_toArray, List.set_cons_zero, List.set_cons_succ]
          generalize hWa3 : World.alloc _ (.cells #[.int .i64 0, .slice none 0 0] 43) = x3 at *
          clear hWa3
          refine wpAnyH_ready (rs := [4]) (by kernel_rfl) (by simp) ?_
          refine AllReadyH.cons rfl (fun K hK => ?_) AllReadyH.nil
          go_simp
          have HK4 := Lib.hid (Two.al1 HK3.out)
          refine hK.out _ _ (HSS.out _ HK4.out.bel) (fun hHeld => ?_)
          clear hK K
          try simp only [Act.put, List.setIfInBounds_toArray, List.set_cons_zero, List.set_cons_succ]
          generalize hWa4 : World.alloc _ (.cells #[.int .i64 0, .slice none 0 0] 43) = x4 at *
          clear hWa4
          obtain ⟨lq1, bq1⟩ := HK4.out.bx1 _ rfl
          have k0 := cell_of_row _ _ 0 _ _ (0, 0) bq1
          have k1 := cell_of_row _ _ 1 _ _ (0, 0) bq1
          have f0 := Gn.frozen_row bq1 0
          have f1 := Gn.frozen_row bq1 1
          refine wpAnyH_ready (rs := [6]) (by kernel_rfl) (by simp) ?_
          refine AllReadyH.cons rfl (fun K hK => ?_) AllReadyH.nil
          go_simp
          refine hK.out _ _ (HSS.out _ (Two.half HK4.out).bel) (fun hHeld => ?_)
          clear hK K
          try simp only [Act.put, List.setIfInBounds_toArray, List.set_cons_zero, List.set_cons_succ]
          have HHF := Lib.hid (Two.half HK4.out)
          dsimp only at HHF
          generalize hWs : World.setCell (World.setCell _ _ _) _ _ = Ws at *
          clear k0 k1 f0 f1 hWs bq1
          have k0 := cell_of_row _ _ 0 _ _ (0, 0) HHF.out.bx2
          have k1 := cell_of_row _ _ 1 _ _ (0, 0) HHF.out.bx2
          have f0 := Gn.frozen_row HHF.out.bx2 0
          have f1 := Gn.frozen_row HHF.out.bx2 1
          refine wpAnyH_ready (rs := [7]) (by kernel_rfl) (by simp) ?_
          refine AllReadyH.cons rfl (fun K hK => ?_) AllReadyH.nil
          go_simp
          refine hK.out _ _ (HSS.out _ (Half.both HHF.out).bel) (fun hHeld => ?_)
          clear hK K
          try simp only [Act.put, List.setIfInBounds_toArray, List.set_cons_zero, List.set_cons_succ]
          refine wpAnyH_done (by kernel_rfl) ?_ _
          refine NoPanic.normal ?_
          go_wp2_with fail
          go_meet
          case rel => exact ⟨_, _, _, _, rfl, rfl, Half.both HHF.out⟩
      refine AllReadyH.cons rfl (fun K hK => ?_) ?_
      · go_simp
        have HK2 := Lib.hid (Two.al1 HK1.out)
        refine hK.out _ _ (HSS.out _ HK2.out.bel) (fun hHeld => ?_)
        clear hK K
        try simp only [Act.put, List.setIfInBounds_toArray, List.set_cons_zero, List.set_cons_succ]
        generalize hWa2 : World.alloc _ (.cells #[.int .i64 0, .slice none 0 0] 43) = x2 at *
        clear hWa2
        refine wpAnyH_ready (rs := [3, 5]) (by kernel_rfl) (by simp) ?_
        refine AllReadyH.cons rfl (fun K hK => ?_) ?_
        · go_simp
          go_at_call 10
          refine (HTO2.out _ HK2.out.bel).mono ?_
          rintro e x3 ⟨n3_, A3_, m3_, c3_, rfl, ht, hb⟩
          have HK3 := Lib.hid (Two.told2 HK2.out _ _ _ _ ht hb)
          clear ht hb
          refine hK.out _ _ (HSS.out _ HK3.out.bel) (fun hHeld => ?_)
          clear hK K
          try simp only [Act.put, List.setIfInBounds_toArray, List.set_cons_zero, List.set_cons_succ]
          refine wpAnyH_ready (rs := [5]) (by kernel_rfl) (by simp) ?_
          refine AllReadyH.cons rfl (fun K hK => ?_) AllReadyH.nil
          go_simp
          have HK4 := Lib.hid (Two.al2 HK3.out)
          refine hK.out _ _ (HSS.out _ HK4.out.bel) (fun hHeld => ?_)
          clear hK K
          try simp only [Act.put, List.setIfInBounds_toArray, List.set_cons_zero, List.set_cons_succ]
          generalize hWa4 : World.alloc _ (.cells #[.int .i64 0, .slice none 0 0] 43) = x4 at *
          clear hWa4
          obtain ⟨lq1, bq1⟩ := HK4.out.bx1 _ rfl
          have k0 := cell_of_row _ _ 0 _ _ (0, 0) bq1
          have k1 := cell_of_row _ _ 1 _ _ (0, 0) bq1
          have f0 := Gn.frozen_row bq1 0
          have f1 := Gn.frozen_row bq1 1
          refine wpAnyH_ready (rs := [6]) (by kernel_rfl) (by simp) ?_
          refine AllReadyH.cons rfl (fun K hK => ?_) AllReadyH.nil
          go_simp
          refine hK.out _ _ (HSS.out _ (Two.half HK4.out).bel) (fun hHeld => ?_)
          clear hK K
          try simp only [Act.put, List.setIfInBounds_toArray, List.set_cons_zero, List.set_cons_succ]
          have HHF := Lib.hid (Two.half HK4.out)
          dsimp only at HHF
          generalize hWs : World.setCell (World.setCell _ _ _) _ _ = Ws at *
          clear k0 k1 f0 f1 hWs bq1
          have k0 := cell_of_row _ _ 0 _ _ (0, 0) HHF.out.bx2
          have k1 := cell_of_row _ _ 1 _ _ (0, 0) HHF.out.bx2
          have f0 := Gn.frozen_row HHF.out.bx2 0
          have f1 := Gn.frozen_row HHF.out.bx2 1
          refine wpAnyH_ready (rs := [7]) (by kernel_rfl) (by simp) ?_
          refine AllReadyH.cons rfl (fun K hK => ?_) AllReadyH.nil
          go_simp
          refine hK.out _ _ (HSS.out _ (Half.both HHF.out).bel) (fun hHeld => ?_)
          clear hK K
          try simp only [Act.put, List.setIfInBounds_toArray, List.set_cons_zero, List.set_cons_succ]
          refine wpAnyH_done (by kernel_rfl) ?_ _
          refine NoPanic.normal ?_
          go_wp2_with fail
          go_meet
          case rel => exact ⟨_, _, _, _, rfl, rfl, Half.both HHF.out⟩
        refine AllReadyH.cons rfl (fun K hK => ?_) AllReadyH.nil
        · go_simp
          have HK3 := Lib.hid (Two.al2 HK2.out)
          refine hK.out _ _ (HSS.out _ HK3.out.bel) (fun hHeld => ?_)
          clear hK K
          try simp only [Act.put, List.setIfInBounds_toArray, List.set_cons_zero, List.set_cons_succ]
          generalize hWa3 : World.alloc _ (.cells #[.int .i64 0, .slice none 0 0] 43) = x3 at *
          clear hWa3
          refine wpAnyH_ready (rs := [3]) (by kernel_rfl) (by simp) ?_
          refine AllReadyH.cons rfl (fun K hK => ?_) AllReadyH.nil
          go_simp
          go_at_call 10
          refine (HTO2.out _ HK3.out.bel).mono ?_
          rintro e x4 ⟨n4_, A4_, m4_, c4_, rfl, ht, hb⟩
          have HK4 := Lib.hid (Two.told2 HK3.out _ _ _ _ ht hb)
          clear ht hb
          refine hK.out _ _ (HSS.out _ HK4.out.bel) (fun hHeld => ?_)
          clear hK K
          try simp only [Act.put, List.setIfInBounds_toArray, List.set_cons_zero, List.set_cons_succ]
          obtain ⟨lq1, bq1⟩ := HK4.out.bx1 _ rfl
          have k0 := cell_of_row _ _ 0 _ _ (0, 0) bq1
          have k1 := cell_of_row _ _ 1 _ _ (0, 0) bq1
          have f0 := Gn.frozen_row bq1 0
          have f1 := Gn.frozen_row bq1 1
          refine wpAnyH_ready (rs := [6]) (by kernel_rfl) (by simp) ?_
          refine AllReadyH.cons rfl (fun K hK => ?_) AllReadyH.nil
          go_simp
          refine hK.out _ _ (HSS.out _ (Two.half HK4.out).bel) (fun hHeld => ?_)
          clear hK K
          try simp only [Act.put, List.setIfInBounds_toArray, List.set_cons_zero, List.set_cons_succ]
          have HHF := Lib.hid (Two.half HK4.out)
          dsimp only at HHF
          generalize hWs : World.setCell (World.setCell _ _ _) _ _ = Ws at *
          clear k0 k1 f0 f1 hWs bq1
          have k0 := cell_of_row _ _ 0 _ _ (0, 0) HHF.out.bx2
          have k1 := cell_of_row _ _ 1 _ _ (0, 0) HHF.out.bx2
          have f0 := Gn.frozen_row HHF.out.bx2 0
          have f1 := Gn.frozen_row HHF.out.bx2 1
          refine wpAnyH_ready (rs := [7]) (by kernel_rfl) (by simp) ?_
          refine AllReadyH.cons rfl (fun K hK => ?_) AllReadyH.nil
          go_simp
          refine hK.out _ _ (HSS.out _ (Half.both HHF.out).bel) (fun hHeld => ?_)
          clear hK K
          try simp only [Act.put, List.setIfInBounds_toArray, List.set_cons_zero, List.set_cons_succ]
          refine wpAnyH_done (by kernel_rfl) ?_ _
          refine NoPanic.normal ?_
          go_wp2_with fail
          go_meet
          case rel => exact ⟨_, _, _, _, rfl, rfl, Half.both HHF.out⟩
      refine AllReadyH.cons rfl (fun K hK => ?_) AllReadyH.nil
      · go_simp
        have HK2 := Lib.hid (Two.al2 HK1.out)
        refine hK.out _ _ (HSS.out _ HK2.out.bel) (fun hHeld => ?_)
        clear hK K
        try simp only [Act.put, List.setIfInBounds_toArray, List.set_cons_zero, List.set_cons_succ]
        generalize hWa2 : World.alloc _ (.cells #[.int .i64 0, .slice none 0 0] 43) = x2 at *
        clear hWa2
        refine wpAnyH_ready (rs := [3, 4]) (by kernel_rfl) (by simp) ?_
        refine AllReadyH.cons rfl (fun K hK => ?_) ?_
        · go_simp
          go_at_call 10
          refine (HTO2.out _ HK2.out.bel).mono ?_
          rintro e x3 ⟨n3_, A3_, m3_, c3_, rfl, ht, hb⟩
          have HK3 := Lib.hid (Two.told2 HK2.out _ _ _ _ ht hb)
          clear ht hb
          refine hK.out _ _ (HSS.out _ HK3.out.bel) (fun hHeld => ?_)
          clear hK K
          try simp only [Act.put, List.setIfInBounds_toArray, List.set_cons_zero, List.set_cons_succ]
          refine wpAnyH_ready (rs := [4]) (by kernel_rfl) (by simp) ?_
          refine AllReadyH.cons rfl (fun K hK => ?_) AllReadyH.nil
          go_simp
          have HK4 := Lib.hid (Two.al1 HK3.out)
          refine hK.out _ _ (HSS.out _ HK4.out.bel) (fun hHeld => ?_)
          clear hK K
          try simp only [Act.put, List.setIfInBounds_toArray, List.set_cons_zero, List.set_cons_succ]
          generalize hWa4 : World.alloc _ (.cells #[.int .i64 0, .slice none 0 0] 43) = x4 at *
          clear hWa4
          obtain ⟨lq1, bq1⟩ := HK4.out.bx1 _ rfl
          have k0 := cell_of_row _ _ 0 _ _ (0, 0) bq1
          have k1 := cell_of_row _ _ 1 _ _ (0, 0) bq1
          have f0 := Gn.frozen_row bq1 0
          have f1 := Gn.frozen_row bq1 1
          refine wpAnyH_ready (rs := [6]) (by kernel_rfl) (by simp) ?_
          refine AllReadyH.cons rfl (fun K hK => ?_) AllReadyH.nil
          go_simp
          refine hK.out _ _ (HSS.out _ (Two.half HK4.out).bel) (fun hHeld => ?_)
          clear hK K
          try simp only [Act.put, List.setIfInBounds_toArray, List.set_cons_zero, List.set_cons_succ]
          have HHF := Lib.hid (Two.half HK4.out)
          dsimp only at HHF
          generalize hWs : World.setCell (World.setCell _ _ _) _ _ = Ws at *
          clear k0 k1 f0 f1 hWs bq1
          have k0 := cell_of_row _ _ 0 _ _ (0, 0) HHF.out.bx2
          have k1 := cell_of_row _ _ 1 _ _ (0, 0) HHF.out.bx2
          have f0 := Gn.frozen_row HHF.out.bx2 0
          have f1 := Gn.frozen_row HHF.out.bx2 1
          refine wpAnyH_ready (rs := [7]) (by kernel_rfl) (by simp) ?_
          refine AllReadyH.cons rfl (fun K hK => ?_) AllReadyH.nil
          go_simp
          refine hK.out _ _ (HSS.out _ (Half.both HHF.out).bel) (fun hHeld => ?_)
          clear hK K
          try simp only [Act.put, List.setIfInBounds_toArray, List.set_cons_zero, List.set_cons_succ]
          refine wpAnyH_done (by kernel_rfl) ?_ _
          refine NoPanic.normal ?_
          go_wp2_with fail
          go_meet
          case rel => exact ⟨_, _, _, _, rfl, rfl, Half.both HHF.out⟩
        refine AllReadyH.cons rfl (fun K hK => ?_) AllReadyH.nil
        · go_simp
          have HK3 := Lib.hid (Two.al1 HK2.out)
          refine hK.out _ _ (HSS.out _ HK3.out.bel) (fun hHeld => ?_)
          clear hK K
          try simp only [Act.put, List.setIfInBounds_toArray, List.set_cons_zero, List.set_cons_succ]
          generalize hWa3 : World.alloc _ (.cells #[.int .i64 0, .slice none 0 0] 43) = x3 at *
          clear hWa3
          refine wpAnyH_ready (rs := [3]) (by kernel_rfl) (by simp) ?_
          refine AllReadyH.cons rfl (fun K hK => ?_) AllReadyH.nil
          go_simp
          go_at_call 10
          refine (HTO2.out _ HK3.out.bel).mono ?_
          rintro e x4 ⟨n4_, A4_, m4_, c4_, rfl, ht, hb⟩
          have HK4 := Lib.hid (Two.told2 HK3.out _ _ _ _ ht hb)
          clear ht hb
          refine hK.out _ _ (HSS.out _ HK4.out.bel) (fun hHeld => ?_)
          clear hK K
          try simp only [Act.put, List.setIfInBounds_toArray, List.set_cons_zero, List.set_cons_succ]
          obtain ⟨lq1, bq1⟩ := HK4.out.bx1 _ rfl
          have k0 := cell_of_row _ _ 0 _ _ (0, 0) bq1
          have k1 := cell_of_row _ _ 1 _ _ (0, 0) bq1
          have f0 := Gn.frozen_row bq1 0
          have f1 := Gn.frozen_row bq1 1
          refine wpAnyH_ready (rs := [6]) (by kernel_rfl) (by simp) ?_
          refine AllReadyH.cons rfl (fun K hK => ?_) AllReadyH.nil
          go_simp
          refine hK.out _ _ (HSS.out _ (Two.half HK4.out).bel) (fun hHeld => ?_)
          clear hK K
          try simp only [Act.put, List.setIfInBounds_toArray, List.set_cons_zero, List.set_cons_succ]
          have HHF := Lib.hid (Two.half HK4.out)
          dsimp only at HHF
          generalize hWs : World.setCell (World.setCell _ _ _) _ _ = Ws at *
          clear k0 k1 f0 f1 hWs bq1
          have k0 := cell_of_row _ _ 0 _ _ (0, 0) HHF.out.bx2
          have k1 := cell_of_row _ _ 1 _ _ (0, 0) HHF.out.bx2
          have f0 := Gn.frozen_row HHF.out.bx2 0
          have f1 := Gn.frozen_row HHF.out.bx2 1
          refine wpAnyH_ready (rs := [7]) (by kernel_rfl) (by simp) ?_
          refine AllReadyH.cons rfl (fun K hK => ?_) AllReadyH.nil
          go_simp
          refine hK.out _ _ (HSS.out _ (Half.both HHF.out).bel) (fun hHeld => ?_)
          clear hK K
          try simp only [Act.put, List.setIfInBounds_toArray, List.set_cons_zero, List.set_cons_succ]
          refine wpAnyH_done (by kernel_rfl) ?_ _
          refine NoPanic.normal ?_
          go_wp2_with fail
          go_meet
          case rel => exact ⟨_, _, _, _, rfl, rfl, Half.both HHF.out⟩
    refine AllReadyH.cons rfl (fun K hK => ?_) ?_
    · go_simp
      have HK1 := Lib.hid (Two.al1 HK0.out)
      refine hK.out _ _ (HSS.out _ HK1.out.bel) (fun hHeld => ?_)
      clear hK K
      try simp only [Act.put, List.setIfInBounds_toArray, List.set_cons_zero, List.set_cons_succ]
      generalize hWa1 : World.alloc _ (.cells #[.int .i64 0, .slice none 0 0] 43) = x1 at *
      clear hWa1
      refine wpAnyH_ready (rs := [1, 5]) (by kernel_rfl) (by simp) ?_
      refine AllReadyH.cons rfl (fun K hK => ?_) ?_
      · go_simp
        go_at_call 10
        refine (HTO1.out _ HK1.out.bel).mono ?_
        rintro e x2 ⟨n2_, A2_, m2_, c2_, rfl, ht, hb⟩
        have HK2 := Lib.hid (Two.told1 HK1.out _ _ _ _ ht hb)
        clear ht hb
        refine hK.out _ _ (HSS.out _ HK2.out.bel) (fun hHeld => ?_)
        clear hK K
        try simp only [Act.put, List.setIfInBounds_toArray, List.set_cons_zero, List.set_cons_succ]
        refine wpAnyH_ready (rs := [3, 5]) (by kernel_rfl) (by simp) ?_
        refine AllReadyH.cons rfl (fun K hK => ?_) ?_
        · go_simp
          go_at_call 10
          refine (HTO2.out _ HK2.out.bel).mono ?_
          rintro e x3 ⟨n3_, A3_, m3_, c3_, rfl, ht, hb⟩
          have HK3 := Lib.hid (Two.told2 HK2.out _ _ _ _ ht hb)
          clear ht hb
          refine hK.out _ _ (HSS.out _ HK3.out.bel) (fun hHeld => ?_)
          clear hK K
          try simp only [Act.put, List.setIfInBounds_toArray, List.set_cons_zero, List.set_cons_succ]
          refine wpAnyH_ready (rs := [5]) (by kernel_rfl) (by simp) ?_
          refine AllReadyH.cons rfl (fun K hK => ?_) AllReadyH.nil
          go_simp
          have HK4 := Lib.hid (Two.al2 HK3.out)
          refine hK.out _ _ (HSS.out _ HK4.out.bel) (fun hHeld => ?_)
          clear hK K
          try simp only [Act.put, List.setIfInBounds_toArray, List.set_cons_zero, List.set_cons_succ]
          generalize hWa4 : World.alloc _ (.cells #[.int .i64 0, .slice none 0 0] 43) = x4 at *
          clear hWa4
          obtain ⟨lq1, bq1⟩ := HK4.out.bx1 _ rfl
          have k0 := cell_of_row _ _ 0 _ _ (0, 0) bq1
          have k1 := cell_of_row _ _ 1 _ _ (0, 0) bq1
          have f0 := Gn.frozen_row bq1 0
          have f1 := Gn.frozen_row bq1 1
          refine wpAnyH_ready (rs := [6]) (by kernel_rfl) (by simp) ?_
          refine AllReadyH.cons rfl (fun K hK => ?_) AllReadyH.nil
          go_simp
          refine hK.out _ _ (HSS.out _ (Two.half HK4.out).bel) (fun hHeld => ?_)
          clear hK K
          try simp only [Act.put, List.setIfInBounds_toArray, List.set_cons_zero, List.set_cons_succ]
          have HHF := Lib.hid (Two.half HK4.out)
          dsimp only at HHF
          generalize hWs : World.setCell (World.setCell _ _ _) _ _ = Ws at *
          clear k0 k1 f0 f1 hWs bq1
          have k0 := cell_of_row _ _ 0 _ _ (0, 0) HHF.out.bx2
          have k1 := cell_of_row _ _ 1 _ _ (0, 0) HHF.out.bx2
          have f0 := Gn.frozen_row HHF.out.bx2 0
          have f1 := Gn.frozen_row HHF.out.bx2 1
          refine wpAnyH_ready (rs := [7]) (by kernel_rfl) (by simp) ?_
          refine AllReadyH.cons rfl (fun K hK => ?_) AllReadyH.nil
          go_simp
          refine hK.out _ _ (HSS.out _ (Half.both HHF.out).bel) (fun hHeld => ?_)
          clear hK K
          try simp only [Act.put, List.setIfInBounds_toArray, List.set_cons_zero, List.set_cons_succ]
          refine wpAnyH_done (by kernel_rfl) ?_ _
          refine NoPanic.normal ?_
          go_wp2_with fail
          go_meet
          case rel => exact ⟨_, _, _, _, rfl, rfl, Half.both HHF.out⟩
        refine AllReadyH.cons rfl (fun K hK => ?_) AllReadyH.nil
        · go_simp
          have HK3 := Lib.hid (Two.al2 HK2.out)
          refine hK.out _ _ (HSS.out _ HK3.out.bel) (fun hHeld => ?_)
          clear hK K
          try simp only [Act.put, List.setIfInBounds_toArray, List.set_cons_zero, List.set_cons_succ]
          generalize hWa3 : World.alloc _ (.cells #[.int .i64 0, .slice none 0 0] 43) = x3 at *
          clear hWa3
          refine wpAnyH_ready (rs := [3]) (by kernel_rfl) (by simp) ?_
          refine AllReadyH.cons rfl (fun K hK => ?_) AllReadyH.nil
          go_simp
          go_at_call 10
          refine (HTO2.out _ HK3.out.bel).mono ?_
          rintro e x4 ⟨n4_, A4_, m4_, c4_, rfl, ht, hb⟩
          have HK4 := Lib.hid (Two.told2 HK3.out _ _ _ _ ht hb)
          clear ht hb
          refine hK.out _ _ (HSS.out _ HK4.out.bel) (fun hHeld => ?_)
          clear hK K
          try simp only [Act.put, List.setIfInBounds_toArray, List.set_cons_zero, List.set_cons_succ]
          obtain ⟨lq1, bq1⟩ := HK4.out.bx1 _ rfl
          have k0 := cell_of_row _ _ 0 _ _ (0, 0) bq1
          have k1 := cell_of_row _ _ 1 _ _ (0, 0) bq1
          have f0 := Gn.frozen_row bq1 0
          have f1 := Gn.frozen_row bq1 1
          refine wpAnyH_ready (rs := [6]) (by kernel_rfl) (by simp) ?_
          refine AllReadyH.cons rfl (fun K hK => ?_) AllReadyH.nil
          go_simp
          refine hK.out _ _ (HSS.out _ (Two.half HK4.out).bel) (fun hHeld => ?_)
          clear hK K
          try simp only [Act.put, List.setIfInBounds_toArray, List.set_cons_zero, List.set_cons_succ]
          have HHF := Lib.hid (Two.half HK4.out)
          dsimp only at HHF
          generalize hWs : World.setCell (World.setCell _ _ _) _ _ = Ws at *
          clear k0 k1 f0 f1 hWs bq1
          have k0 := cell_of_row _ _ 0 _ _ (0, 0) HHF.out.bx2
          have k1 := cell_of_row _ _ 1 _ _ (0, 0) HHF.out.bx2
          have f0 := Gn.frozen_row HHF.out.bx2 0
          have f1 := Gn.frozen_row HHF.out.bx2 1
          refine wpAnyH_ready (rs := [7]) (by kernel_rfl) (by simp) ?_
          refine AllReadyH.cons rfl (fun K hK => ?_) AllReadyH.nil
          go_simp
          refine hK.out _ _ (HSS.out _ (Half.both HHF.out).bel) (fun hHeld => ?_)
          clear hK K
          try simp only [Act.put, List.setIfInBounds_toArray, List.set_cons_zero, List.set_cons_succ]
          refine wpAnyH_done (by kernel_rfl) ?_ _
          refine NoPanic.normal ?_
          go_wp2_with fail
          go_meet
          case rel => exact ⟨_, _, _, _, rfl, rfl, Half.both HHF.out⟩
      refine AllReadyH.cons rfl (fun K hK => ?_) AllReadyH.nil
      · go_simp
        have HK2 := Lib.hid (Two.al2 HK1.out)
        refine hK.out _ _ (HSS.out _ HK2.out.bel) (fun hHeld => ?_)
        clear hK K
        try simp only [Act.put, List.setIfInBounds_toArray, List.set_cons_zero, List.set_cons_succ]
        generalize hWa2 : World.alloc _ (.cells #[.int .i64 0, .slice none 0 0] 43) = x2 at *
        clear hWa2
        refine wpAnyH_ready (rs := [1]) (by kernel_rfl) (by simp) ?_
        refine AllReadyH.cons rfl (fun K hK => ?_) AllReadyH.nil
        go_simp
        go_at_call 10
        refine (HTO1.out _ HK2.out.bel).mono ?_
        rintro e x3 ⟨n3_, A3_, m3_, c3_, rfl, ht, hb⟩
        have HK3 := Lib.hid (Two.told1 HK2.out _ _ _ _ ht hb)
        clear ht hb
        refine hK.out _ _ (HSS.out _ HK3.out.bel) (fun hHeld => ?_)
        clear hK K
        try simp only [Act.put, List.setIfInBounds_toArray, List.set_cons_zero, List.set_cons_succ]
        refine wpAnyH_ready (rs := [3]) (by kernel_rfl) (by simp) ?_
        refine AllReadyH.cons rfl (fun K hK => ?_) AllReadyH.nil
        go_simp
        go_at_call 10
        refine (HTO2.out _ HK3.out.bel).mono ?_
        rintro e x4 ⟨n4_, A4_, m4_, c4_, rfl, ht, hb⟩
        have HK4 := Lib.hid (Two.told2 HK3.out _ _ _ _ ht hb)
        clear ht hb
        refine hK.out _ _ (HSS.out _ HK4.out.bel) (fun hHeld => ?_)
        clear hK K
        try simp only [Act.put, List.setIfInBounds_toArray, List.set_cons_zero, List.set_cons_succ]
        obtain ⟨lq1, bq1⟩ := HK4.out.bx1 _ rfl
        have k0 := cell_of_row _ _ 0 _ _ (0, 0) bq1
        have k1 := cell_of_row _ _ 1 _ _ (0, 0) bq1
        have f0 := Gn.frozen_row bq1 0
        have f1 := Gn.frozen_row bq1 1
        refine wpAnyH_ready (rs := [6]) (by kernel_rfl) (by simp) ?_
        refine AllReadyH.cons rfl (fun K hK => ?_) AllReadyH.nil
        go_simp
        refine hK.out _ _ (HSS.out _ (Two.half HK4.out).bel) (fun hHeld => ?_)
        clear hK K
        try simp only [Act.put, List.setIfInBounds_toArray, List.set_cons_zero, List.set_cons_succ]
        have HHF := Lib.hid (Two.half HK4.out)
        dsimp only at HHF
        generalize hWs : World.setCell (World.setCell _ _ _) _ _ = Ws at *
        clear k0 k1 f0 f1 hWs bq1
        have k0 := cell_of_row _ _ 0 _ _ (0, 0) HHF.out.bx2
        have k1 := cell_of_row _ _ 1 _ _ (0, 0) HHF.out.bx2
        have f0 := Gn.frozen_row HHF.out.bx2 0
        have f1 := Gn.frozen_row HHF.out.bx2 1
        refine wpAnyH_ready (rs := [7]) (by kernel_rfl) (by simp) ?_
        refine AllReadyH.cons rfl (fun K hK => ?_) AllReadyH.nil
        go_simp
        refine hK.out _ _ (HSS.out _ (Half.both HHF.out).bel) (fun hHeld => ?_)
        clear hK K
        try simp only [Act.put, List.setIfInBounds_toArray, List.set_cons_zero, List.set_cons_succ]
        refine wpAnyH_done (by kernel_rfl) ?_ _
        refine NoPanic.normal ?_
        go_wp2_with fail
        go_meet
        case rel => exact ⟨_, _, _, _, rfl, rfl, Half.both HHF.out⟩
    refine AllReadyH.cons rfl (fun K hK => ?_) AllReadyH.nil
    · go_simp
      have HK1 := Lib.hid (Two.al2 HK0.out)
      refine hK.out _ _ (HSS.out _ HK1.out.bel) (fun hHeld => ?_)
      clear hK K
      try simp only [Act.put, List.setIfInBounds_toArray, List.set_cons_zero, List.set_cons_succ]
      generalize hWa1 : World.alloc _ (.cells #[.int .i64 0, .slice none 0 0] 43) = x1 at *
      clear hWa1
      refine wpAnyH_ready (rs := [1, 4]) (by kernel_rfl) (by simp) ?_
      refine AllReadyH.cons rfl (fun K hK => ?_) ?_
      · go_simp
        go_at_call 10
        refine (HTO1.out _ HK1.out.bel).mono ?_
        rintro e x2 ⟨n2_, A2_, m2_, c2_, rfl, ht, hb⟩
        have HK2 := Lib.hid (Two.told1 HK1.out _ _ _ _ ht hb)
        clear ht hb
        refine hK.out _ _ (HSS.out _ HK2.out.bel) (fun hHeld => ?_)
        clear hK K
        try simp only [Act.put, List.setIfInBounds_toArray, List.set_cons_zero, List.set_cons_succ]
        refine wpAnyH_ready (rs := [3, 4]) (by kernel_rfl) (by simp) ?_
        refine AllReadyH.cons rfl (fun K hK => ?_) ?_
        · go_simp
          go_at_call 10
          refine (HTO2.out _ HK2.out.bel).mono ?_
          rintro e x3 ⟨n3_, A3_, m3_, c3_, rfl, ht, hb⟩
          have HK3 := Lib.hid (Two.told2 HK2.out _ _ _ _ ht hb)
          clear ht hb
          refine hK.out _ _ (HSS.out _ HK3.out.bel) (fun hHeld => ?_)
          clear hK K
          try simp only [Act.put, List.setIfInBounds_toArray, List.set_cons_zero, List.set_cons_succ]
          refine wpAnyH_ready (rs := [4]) (by kernel_rfl) (by simp) ?_
          refine AllReadyH.cons rfl (fun K hK => ?_) AllReadyH.nil
          go_simp
          have HK4 := Lib.hid (Two.al1 HK3.out)
          refine hK.out _ _ (HSS.out _ HK4.out.bel) (fun hHeld => ?_)
          clear hK K
          try simp only [Act.put, List.setIfInBounds_toArray, List.set_cons_zero, List.set_cons_succ]
          generalize hWa4 : World.alloc _ (.cells #[.int .i64 0, .slice none 0 0] 43) = x4 at *
          clear hWa4
          obtain ⟨lq1, bq1⟩ := HK4.out.bx1 _ rfl
          have k0 := cell_of_row _ _ 0 _ _ (0, 0) bq1
          have k1 := cell_of_row _ _ 1 _ _ (0, 0) bq1
          have f0 := Gn.frozen_row bq1 0
          have f1 := Gn.frozen_row bq1 1
          refine wpAnyH_ready (rs := [6]) (by kernel_rfl) (by simp) ?_
          refine AllReadyH.cons rfl (fun K hK => ?_) AllReadyH.nil
          go_simp
          refine hK.out _ _ (HSS.out _ (Two.half HK4.out).bel) (fun hHeld => ?_)
          clear hK K
          try simp only [Act.put, List.setIfInBounds_toArray, List.set_cons_zero, List.set_cons_succ]
          have HHF := Lib.hid (Two.half HK4.out)
          dsimp only at HHF
          generalize hWs : World.setCell (World.setCell _ _ _) _ _ = Ws at *
          clear k0 k1 f0 f1 hWs bq1
          have k0 := cell_of_row _ _ 0 _ _ (0, 0) HHF.out.bx2
          have k1 := cell_of_row _ _ 1 _ _ (0, 0) HHF.out.bx2
          have f0 := Gn.frozen_row HHF.out.bx2 0
          have f1 := Gn.frozen_row HHF.out.bx2 1
          refine wpAnyH_ready (rs := [7]) (by kernel_rfl) (by simp) ?_
          refine AllReadyH.cons rfl (fun K hK => ?_) AllReadyH.nil
          go_simp
          refine hK.out _ _ (HSS.out _ (Half.both HHF.out).bel) (fun hHeld => ?_)
          clear hK K
          try simp only [Act.put, List.setIfInBounds_toArray, List.set_cons_zero, List.set_cons_succ]
          refine wpAnyH_done (by kernel_rfl) ?_ _
          refine NoPanic.normal ?_
          go_wp2_with fail
          go_meet
          case rel => exact ⟨_, _, _, _, rfl, rfl, Half.both HHF.out⟩
        refine AllReadyH.cons rfl (fun K hK => ?_) AllReadyH.nil
        · go_simp
          have HK3 := Lib.hid (Two.al1 HK2.out)
          refine hK.out _ _ (HSS.out _ HK3.out.bel) (fun hHeld => ?_)
          clear hK K
          try simp only [Act.put, List.setIfInBounds_toArray, List.set_cons_zero, List.set_cons_succ]
          generalize hWa3 : World.alloc _ (.cells #[.int .i64 0, .slice none 0 0] 43) = x3 at *
          clear hWa3
          refine wpAnyH_ready (rs := [3]) (by kernel_rfl) (by simp) ?_
          refine AllReadyH.cons rfl (fun K hK => ?_) AllReadyH.nil
          go_simp
          go_at_call 10
          refine (HTO2.out _ HK3.out.bel).mono ?_
          rintro e x4 ⟨n4_, A4_, m4_, c4_, rfl, ht, hb⟩
          have HK4 := Lib.hid (Two.told2 HK3.out _ _ _ _ ht hb)
          clear ht hb
          refine hK.out _ _ (HSS.out _ HK4.out.bel) (fun hHeld => ?_)
          clear hK K
          try simp only [Act.put, List.setIfInBounds_toArray, List.set_cons_zero, List.set_cons_succ]
          obtain ⟨lq1, bq1⟩ := HK4.out.bx1 _ rfl
          have k0 := cell_of_row _ _ 0 _ _ (0, 0) bq1
          have k1 := cell_of_row _ _ 1 _ _ (0, 0) bq1
          have f0 := Gn.frozen_row bq1 0
          have f1 := Gn.frozen_row bq1 1
          refine wpAnyH_ready (rs := [6]) (by kernel_rfl) (by simp) ?_
          refine AllReadyH.cons rfl (fun K hK => ?_) AllReadyH.nil
          go_simp
          refine hK.out _ _ (HSS.out _ (Two.half HK4.out).bel) (fun hHeld => ?_)
          clear hK K
          try simp only [Act.put, List.setIfInBounds_toArray, List.set_cons_zero, List.set_cons_succ]
          have HHF := Lib.hid (Two.half HK4.out)
          dsimp only at HHF
          generalize hWs : World.setCell (World.setCell _ _ _) _ _ = Ws at *
          clear k0 k1 f0 f1 hWs bq1
          have k0 := cell_of_row _ _ 0 _ _ (0, 0) HHF.out.bx2
          have k1 := cell_of_row _ _ 1 _ _ (0, 0) HHF.out.bx2
          have f0 := Gn.frozen_row HHF.out.bx2 0
          have f1 := Gn.frozen_row HHF.out.bx2 1
          refine wpAnyH_ready (rs := [7]) (by kernel_rfl) (by simp) ?_
          refine AllReadyH.cons rfl (fun K hK => ?_) AllReadyH.nil
          go_simp
          refine hK.out _ _ (HSS.out _ (Half.both HHF.out).bel) (fun hHeld => ?_)
          clear hK K
          try simp only [Act.put, List.setIfInBounds_toArray, List.set_cons_zero, List.set_cons_succ]
          refine wpAnyH_done (by kernel_rfl) ?_ _
          refine NoPanic.normal ?_
          go_wp2_with fail
          go_meet
          case rel => exact ⟨_, _, _, _, rfl, rfl, Half.both HHF.out⟩
      refine AllReadyH.cons rfl (fun K hK => ?_) AllReadyH.nil
      · go_simp
        have HK2 := Lib.hid (Two.al1 HK1.out)
        refine hK.out _ _ (HSS.out _ HK2.out.bel) (fun hHeld => ?_)
        clear hK K
        try simp only [Act.put, List.setIfInBounds_toArray, List.set_cons_zero, List.set_cons_succ]
        generalize hWa2 : World.alloc _ (.cells #[.int .i64 0, .slice none 0 0] 43) = x2 at *
        clear hWa2
        refine wpAnyH_ready (rs := [1]) (by kernel_rfl) (by simp) ?_
        refine AllReadyH.cons rfl (fun K hK => ?_) AllReadyH.nil
        go_simp
        go_at_call 10
        refine (HTO1.out _ HK2.out.bel).mono ?_
        rintro e x3 ⟨n3_, A3_, m3_, c3_, rfl, ht, hb⟩
        have HK3 := Lib.hid (Two.told1 HK2.out _ _ _ _ ht hb)
        clear ht hb
        refine hK.out _ _ (HSS.out _ HK3.out.bel) (fun hHeld => ?_)
        clear hK K
        try simp only [Act.put, List.setIfInBounds_toArray, List.set_cons_zero, List.set_cons_succ]
        refine wpAnyH_ready (rs := [3]) (by kernel_rfl) (by simp) ?_
        refine AllReadyH.cons rfl (fun K hK => ?_) AllReadyH.nil
        go_simp
        go_at_call 10
        refine (HTO2.out _ HK3.out.bel).mono ?_
        rintro e x4 ⟨n4_, A4_, m4_, c4_, rfl, ht, hb⟩
        have HK4 := Lib.hid (Two.told2 HK3.out _ _ _ _ ht hb)
        clear ht hb
        refine hK.out _ _ (HSS.out _ HK4.out.bel) (fun hHeld => ?_)
        clear hK K
        try simp only [Act.put, List.setIfInBounds_toArray, List.set_cons_zero, List.set_cons_succ]
        obtain ⟨lq1, bq1⟩ := HK4.out.bx1 _ rfl
        have k0 := cell_of_row _ _ 0 _ _ (0, 0) bq1
        have k1 := cell_of_row _ _ 1 _ _ (0, 0) bq1
        have f0 := Gn.frozen_row bq1 0
        have f1 := Gn.frozen_row bq1 1
        refine wpAnyH_ready (rs := [6]) (by kernel_rfl) (by simp) ?_
        refine AllReadyH.cons rfl (fun K hK => ?_) AllReadyH.nil
        go_simp
        refine hK.out _ _ (HSS.out _ (Two.half HK4.out).bel) (fun hHeld => ?_)
        clear hK K
        try simp only [Act.put, List.setIfInBounds_toArray, List.set_cons_zero, List.set_cons_succ]
        have HHF := Lib.hid (Two.half HK4.out)
        dsimp only at HHF
        generalize hWs : World.setCell (World.setCell _ _ _) _ _ = Ws at *
        clear k0 k1 f0 f1 hWs bq1
        have k0 := cell_of_row _ _ 0 _ _ (0, 0) HHF.out.bx2
        have k1 := cell_of_row _ _ 1 _ _ (0, 0) HHF.out.bx2
        have f0 := Gn.frozen_row HHF.out.bx2 0
        have f1 := Gn.frozen_row HHF.out.bx2 1
        refine wpAnyH_ready (rs := [7]) (by kernel_rfl) (by simp) ?_
        refine AllReadyH.cons rfl (fun K hK => ?_) AllReadyH.nil
        go_simp
        refine hK.out _ _ (HSS.out _ (Half.both HHF.out).bel) (fun hHeld => ?_)
        clear hK K
        try simp only [Act.put, List.setIfInBounds_toArray, List.set_cons_zero, List.set_cons_succ]
        refine wpAnyH_done (by kernel_rfl) ?_ _
        refine NoPanic.normal ?_
        go_wp2_with fail
        go_meet
        case rel => exact ⟨_, _, _, _, rfl, rfl, Half.both HHF.out⟩
  case rest =>
    obtain ⟨q1, q2, ⟨n5, A5, m5, c5⟩, ⟨n6, A6, m6, c6⟩, rfl, rfl, hbo⟩ := hcut
    have HBO := Lib.hid hbo
    have HB6 := Lib.hid (HB5.out.trans (hbo.bel.mono HB5.out.size))
    clear hbo HSS HTO1 HTO2 HK0
    have HZ6 := Lib.hid (show V.heap.size ≤ wc.heap.size from HB6.out.size)
    have HPC := Lib.hid (fun (w : World) (b : Below wc.heap.size wc w) => show (fun w' : World => w'.cell? ⟨w2.heap.size, 0, none⟩ = some (.int .i64 st) ∧ w'.cell? ⟨w2.heap.size, 1, none⟩ = some (.int .i64 ru) ∧ w'.cell? ⟨w2.heap.size, 2, none⟩ = some (.slice An n cn) ∧ w'.cell? ⟨w2.heap.size, 3, none⟩ = some (.slice At_ lt ct) ∧ w'.cell? ⟨w2.heap.size, 4, none⟩ = some (.slice Ap np cp)) w from (by
      have h := ((HB6.out.trans (b.mono HB6.out.size)).block _ (Gn.heap_lt HBX.out.2.1)).trans HBX.out.2.1
      exact ⟨cell_of_row _ _ 0 _ _ (0, 0) h, cell_of_row _ _ 1 _ _ (0, 0) h, cell_of_row _ _ 2 _ _ (0, 0) h, cell_of_row _ _ 3 _ _ (0, 0) h, cell_of_row _ _ 4 _ _ (0, 0) h⟩))
    have HQC := Lib.hid (fun (w : World) (b : Below wc.heap.size wc w) => show (fun w' : World => w'.cell? ⟨w2.heap.size + 1, 0, none⟩ = some (.int .i64 st) ∧ w'.cell? ⟨w2.heap.size + 1, 1, none⟩ = some (.int .i64 ru) ∧ w'.cell? ⟨w2.heap.size + 1, 2, none⟩ = some (.slice Bn n dn) ∧ w'.cell? ⟨w2.heap.size + 1, 3, none⟩ = some (.slice Bt lt dt) ∧ w'.cell? ⟨w2.heap.size + 1, 4, none⟩ = some (.slice Bp np dp)) w from (by
      have h := ((HB6.out.trans (b.mono HB6.out.size)).block _ (Gn.heap_lt HBX.out.2.2)).trans HBX.out.2.2
      exact ⟨cell_of_row _ _ 0 _ _ (0, 0) h, cell_of_row _ _ 1 _ _ (0, 0) h, cell_of_row _ _ 2 _ _ (0, 0) h, cell_of_row _ _ 3 _ _ (0, 0) h, cell_of_row _ _ 4 _ _ (0, 0) h⟩))
    have HTC := Lib.hid (fun (w : World) (b : Below wc.heap.size wc w) => show w.cell? ⟨w4.heap.size, 0, none⟩ = some (.int .i64 n3) ∧ w.cell? ⟨w4.heap.size, 1, none⟩ = some (.slice A3 m3 c3) from (by
      have h := ((HBO.out.bel.trans (b.mono HBO.out.bel.size)).block _ (Gn.heap_lt HX5.out)).trans HX5.out
      exact ⟨cell_of_row _ _ 0 _ _ (0, 0) h, cell_of_row _ _ 1 _ _ (0, 0) h⟩))
    have HUC := Lib.hid (fun (w : World) (b : Below wc.heap.size wc w) => show w.cell? ⟨w4.heap.size + 1, 0, none⟩ = some (.int .i64 n4) ∧ w.cell? ⟨w4.heap.size + 1, 1, none⟩ = some (.slice A4 m4 c4) from (by
      have h := ((HBO.out.bel.trans (b.mono HBO.out.bel.size)).block _ (Gn.heap_lt HY5.out)).trans HY5.out
      exact ⟨cell_of_row _ _ 0 _ _ (0, 0) h, cell_of_row _ _ 1 _ _ (0, 0) h⟩))
    have HAC := Lib.hid (fun (w : World) (b : Below wc.heap.size wc w) => show w.cell? ⟨q1, 0, none⟩ = some (.int .i64 n5) ∧ w.cell? ⟨q1, 1, none⟩ = some (.slice A5 m5 c5) from (by
      have h := (b.block _ (Gn.heap_lt HBO.out.bx1)).trans HBO.out.bx1
      exact ⟨cell_of_row _ _ 0 _ _ (0, 0) h, cell_of_row _ _ 1 _ _ (0, 0) h⟩))
    have HDC := Lib.hid (fun (w : World) (b : Below wc.heap.size wc w) => show w.cell? ⟨q2, 0, none⟩ = some (.int .i64 n6) ∧ w.cell? ⟨q2, 1, none⟩ = some (.slice A6 m6 c6) from (by
      have h := (b.block _ (Gn.heap_lt HBO.out.bx2)).trans HBO.out.bx2
      exact ⟨cell_of_row _ _ 0 _ _ (0, 0) h, cell_of_row _ _ 1 _ _ (0, 0) h⟩))
    have HTT := Lib.hid (fun (w : World) (b : Below wc.heap.size wc w) => HT5.out.under (HBO.out.bel.trans (b.mono HBO.out.bel.size)))
    have HUU := Lib.hid (fun (w : World) (b : Below wc.heap.size wc w) => HU5.out.under (HBO.out.bel.trans (b.mono HBO.out.bel.size)))
    have HAA := Lib.hid (fun (w : World) (b : Below wc.heap.size wc w) => HBO.out.tr1.under b)
    have HDD := Lib.hid (fun (w : World) (b : Below wc.heap.size wc w) => HBO.out.tr2.under b)
    have HPP := Lib.hid (fun (w : World) (b : Below wc.heap.size wc w) => HCP.out w (HB6.out.trans (b.mono HB6.out.size)))
    have HQQ := Lib.hid (fun (w : World) (b : Below wc.heap.size wc w) => HCU.out w (HB6.out.trans (b.mono HB6.out.size)))
    obtain ⟨hfit, hwr, hnm⟩ := Tr.made_wr HMD.out
    have htl := (Tr.text_len9 HMD.out t).2
    have hdn := Tr.deep_le t
    obtain ⟨ok, hok⟩ : ∃ ok, ok = fitsT g t := ⟨_, rfl⟩
    obtain ⟨wt, hwt⟩ : ∃ wt, wt = textE g t := ⟨_, rfl⟩
    obtain ⟨sm, hsm⟩ : ∃ sm, sm = sameT t u := ⟨_, rfl⟩
    obtain ⟨nn, hnn⟩ : ∃ nn, nn = nodesT t := ⟨_, rfl⟩
    obtain ⟨dd, hdd⟩ : ∃ dd, dd = deepT t := ⟨_, rfl⟩
    obtain ⟨pt, hpt⟩ : ∃ pt : ByteArray, pt = ⟨(putT t).toArray⟩ := ⟨_, rfl⟩
    have hchk : checkB g t = ok := by unfold checkB; rw [HSD.out, hok]; rfl
    have HCK := Lib.hid (fun (w : World) (b : Below wc.heap.size wc w) => (Tr.check_any g HFT.out hfit HSM.out _ _ w _ _ _ (HTT.out w b) (HPP.out w b)).mono fun e w' h => show e = .returned (.bool ok) ∧ Below w.heap.size w w' from (by rw [hchk] at h; exact h))
    have HRC := Lib.hid (fun (w : World) (b : Below wc.heap.size wc w) => (Tr.rcheck_any g hfit (side_len3 HMD.out) HSM.out HF3.out _ _ w _ _ _ (HAA.out w b) (HQQ.out w b)).mono fun e w' h => show e = .returned (.bool ok) ∧ Below w.heap.size w w' from (by rw [← hok] at h; exact h))
    have HTX := Lib.hid (fun (w : World) (b : Below wc.heap.size wc w) => (Tr.text_any g HFT.out hfit (fun _ => hwr) HSM.out (by omega) _ _ w _ _ _ (HTT.out w b) (HPP.out w b)).mono fun e w' h => show e = .returned (.string wt) ∧ Below w.heap.size w w' from (by rw [← hwt] at h; exact h))
    have HRX := Lib.hid (fun (w : World) (b : Below wc.heap.size wc w) (h0 : ok = true) => (Tr.rtext_any g hwr hnm HSM.out (by rw [← hok]; exact h0) (by omega) _ _ w _ _ _ (HAA.out w b) (HQQ.out w b)).mono fun e w' h => show e = .returned (.string wt) ∧ Below w.heap.size w w' from (by
      have e1 : wt = ⟨(textT g t).toArray⟩ := by rw [hwt]; unfold textE; rw [hchk, if_pos h0]
      rw [e1]; exact h))
    have HSA := Lib.hid (fun (w : World) (b : Below wc.heap.size wc w) => (Tr.samet_any HSM.out u _ _ w _ _ _ _ (HTT.out w b) (HUU.out w b)).mono fun e w' h => show e = .returned (.bool sm) ∧ Below w.heap.size w w' from (by rw [← hsm] at h; exact h))
    have HRS := Lib.hid (fun (w : World) (b : Below wc.heap.size wc w) => (Tr.rsamet_any HSM.out u _ _ w _ _ _ _ (HAA.out w b) (HDD.out w b)).mono fun e w' h => show e = .returned (.bool sm) ∧ Below w.heap.size w w' from (by rw [← hsm] at h; exact h))
    have HST := Lib.hid (fun (w : World) (b : Below wc.heap.size wc w) => (Tr.samet_any HSM.out t _ _ w _ _ _ _ (HTT.out w b) (HTT.out w b)).mono fun e w' h => show e = .returned (.bool true) ∧ Below w.heap.size w w' from (by rw [Tr.same_self] at h; exact h))
    have HYI := Lib.hid (fun (w : World) (b : Below wc.heap.size wc w) => tN_of (Tr.yieldt_any HSM.out HF3.out (by omega) _ w _ _ (HTT.out w b)))
    have HRY := Lib.hid (fun (w : World) (b : Below wc.heap.size wc w) => tN_of (Tr.ryield_any HSM.out HF3.out (by omega) _ w _ _ (HAA.out w b)))
    have HLE := Lib.hid (fun (w : World) (b : Below wc.heap.size wc w) => tN_of (Tr.leftmost_any HSM.out (by omega) _ w _ _ (HTT.out w b)))
    have HRL := Lib.hid (fun (w : World) (b : Below wc.heap.size wc w) => tN_of (Tr.rleft_any HSM.out (by omega) _ w _ _ (HAA.out w b)))
    have HNO := Lib.hid (fun (w : World) (b : Below wc.heap.size wc w) => (Tr.rnodes_any HSM.out (by omega) _ w _ _ (HAA.out w b)).mono fun e w' h => show e = .returned (.int .i64 nn) ∧ Below w.heap.size w w' from (by rw [← hnn] at h; exact h))
    have HDE := Lib.hid (fun (w : World) (b : Below wc.heap.size wc w) => (Tr.rdeep_any HSM.out (by omega) _ w _ _ (HAA.out w b)).mono fun e w' h => show e = .returned (.int .i64 dd) ∧ Below w.heap.size w w' from (by rw [← hdd] at h; exact h))
    have HPU := Lib.hid (fun (w : World) (b : Below wc.heap.size wc w) => (Tr.putt_any HSM.out (by omega) _ w _ _ (HTT.out w b)).mono fun e w' h => show e = .returned (.string pt) ∧ Below w.heap.size w w' from (by rw [← hpt] at h; exact h))
    have HRP := Lib.hid (fun (w : World) (b : Below wc.heap.size wc w) => (Tr.rputt_any HSM.out (by omega) _ w _ _ (HAA.out w b)).mono fun e w' h => show e = .returned (.string pt) ∧ Below w.heap.size w w' from (by
      obtain ⟨s, h1, h2, h3⟩ := h
      rw [hpt, ← out_str h2]
      exact ⟨h1, h3⟩))
    have HSZ := Lib.hid (fun (w : World) (b : Below wc.heap.size wc w) => (Tr.size_any HSM.out (fun r => r < w.heap.size) w _ _ ((HTT.out w b).keep (Nat.le_refl _) fun r _ hr => ⟨hr, fun _ => rfl⟩) (fun r hr => hr) (by omega)).mono fun e w' h => show e = .returned (.tuple #[.int .i64 nn, .int .i64 dd]) ∧ Below w.heap.size w w' from (by rw [← hnn, ← hdd] at h; exact h))
    have HWT := Lib.hid (show ok = false → wt = ⟨#[]⟩ from fun h0 => by rw [hwt]; unfold textE; rw [hchk, h0]; rfl)
    have HYL := Lib.hid (Nat.le_trans (Tr.yield_le t) (by omega : nodesT t ≤ 1099511627776))
    have HPL := Lib.hid (Nat.le_trans (Tr.prod_few t) (by omega : nodesT t ≤ 1099511627776))
    have HWC := Lib.hid (HBW.out.trans (HB6.out.mono HBW.out.size))
    clear hfit hwr hnm htl hdn hok hwt hsm hnn hdd hpt hchk
    have esm : (sm == sm) = true := by simp
    obtain ⟨t0, t1⟩ := HTC.out wc (Below.refl _ _)
    go_wp2_with fail
    refine (HSZ.out wc (Below.refl _ _)).mono ?_
    rintro e w6 ⟨rfl, hb6⟩
    have HB66 := Lib.hid hb6
    clear t0 t1 hb6
    obtain ⟨y0, y1, y2, y3, y4⟩ := HQC.out w6 HB66.out
    obtain ⟨z0, z1⟩ := HAC.out w6 HB66.out
    go_wp2_with fail
    refine (HRC.out w6 HB66.out).mono ?_
    rintro e w7 ⟨rfl, hb7⟩
    have HB7 := Lib.hid (HB66.out.trans (hb7.mono HB66.out.size))
    clear y0 y1 y2 y3 y4 z0 z1 hb7
    cases ok with
    | false =>
      have hwt := HWT.out rfl
      subst hwt
      clear HRX HWT
      go_upto_region 11 with fail
      refine LooseD.region_loose (fun w => Below wc.heap.size wc w) _ _ (by kernel_rfl) (by kernel_rfl)
        (LooseD.waits (D := [[], [], [], [], [], [], [], [], [], [], [], [], [], [], [], [], [], [], [], [], [], [], [], [], [], [], [], [], [], [], [], [28, 30], [], [], [], [], [], [], [], [], [], [], [], [], [], [], [], [], [], [], [47, 49], [], [], [], [], [], [], [], [], []]) (by kernel_rfl))
        (LooseD.stays (ts := [none, none, some (.is (.bool false)), none, none, none, none, none, some (.is (.string ⟨#[]⟩)), none, none, none, none, none, none, some (.is (.bool sm)), none, none, some (.is (.bool sm)), none, none, none, none, none, some (.is (.bool true)), none, none, none, some (.told (tN (yieldT t))), none, some (.told (tN (yieldT t))), some (.is (.bool true)), none, none, none, none, some (.is (.int .i64 nn)), none, none, none, none, none, some (.is (.int .i64 dd)), none, none, none, none, some (.told (tN (prodT t))), none, some (.told (tN (prodT t))), some (.is (.bool true)), none, none, none, some (.is (.string pt)), none, some (.is (.string pt)), none, none, none]) (fun w w' h b => h.trans (b.mono h.size)) (.none (.none (.is (.none (.none (.none (.none (.none (.is (.none (.none (.none (.none (.none (.none (.is (.none (.none (.is (.none (.none (.none (.none (.none (.is (.none (.none (.none (.told (tN_st _) (.none (.told (tN_st _) (.is (.none (.none (.none (.none (.is (.none (.none (.none (.none (.none (.is (.none (.none (.none (.none (.told (tN_st _) (.none (.told (tN_st _) (.is (.none (.none (.none (.is (.none (.is (.none (.none (.none .nil)))))))))))))))))))))))))))))))))))))))))))))))))))))))))))))
        HB7.out.drew ?_
      refine LooseD.reads (.agg #[.int .i64 st, .int .i64 ru, .slice An n cn, .slice At_ lt ct, .slice Ap np cp]) rfl rfl ?_ ?_
      · intro w hw
        obtain ⟨y0, y1, y2, y3, y4⟩ := HPC.out w hw
        clear hw
        go_simp
      try simp only [Act.put, List.setIfInBounds_toArray, List.set_cons_zero, List.set_cons_succ]
      refine LooseD.reads (.agg #[.int .i64 n3, .slice A3 m3 c3]) rfl rfl ?_ ?_
      · intro w hw
        obtain ⟨y0, y1⟩ := HTC.out w hw
        clear hw
        go_simp
      try simp only [Act.put, List.setIfInBounds_toArray, List.set_cons_zero, List.set_cons_succ]
      refine LooseD.gives (.bool false) 14 #[.agg #[.int .i64 st, .int .i64 ru, .slice An n cn, .slice At_ lt ct, .slice Ap np cp], .agg #[.int .i64 n3, .slice A3 m3 c3]] rfl rfl ?_ (fun w hw hH => HCK.out w hw) ?_
      · intro w hw
        clear hw
        go_simp
      try simp only [Act.put, List.setIfInBounds_toArray, List.set_cons_zero, List.set_cons_succ]
      refine LooseD.reads (.bool false) rfl rfl ?_ ?_
      · intro w hw
        clear hw
        go_simp
      try simp only [Act.put, List.setIfInBounds_toArray, List.set_cons_zero, List.set_cons_succ]
      refine LooseD.reads (.bool true) rfl rfl ?_ ?_
      · intro w hw
        clear hw
        go_simp
      try simp only [Act.put, List.setIfInBounds_toArray, List.set_cons_zero, List.set_cons_succ]
      refine LooseD.reads (.bool true) rfl rfl ?_ ?_
      · intro w hw
        clear hw
        go_simp
      try simp only [Act.put, List.setIfInBounds_toArray, List.set_cons_zero, List.set_cons_succ]
      refine LooseD.reads (.agg #[.int .i64 st, .int .i64 ru, .slice An n cn, .slice At_ lt ct, .slice Ap np cp]) rfl rfl ?_ ?_
      · intro w hw
        obtain ⟨y0, y1, y2, y3, y4⟩ := HPC.out w hw
        clear hw
        go_simp
      try simp only [Act.put, List.setIfInBounds_toArray, List.set_cons_zero, List.set_cons_succ]
      refine LooseD.reads (.agg #[.int .i64 n3, .slice A3 m3 c3]) rfl rfl ?_ ?_
      · intro w hw
        obtain ⟨y0, y1⟩ := HTC.out w hw
        clear hw
        go_simp
      try simp only [Act.put, List.setIfInBounds_toArray, List.set_cons_zero, List.set_cons_succ]
      refine LooseD.gives (.string ⟨#[]⟩) 15 #[.agg #[.int .i64 st, .int .i64 ru, .slice An n cn, .slice At_ lt ct, .slice Ap np cp], .agg #[.int .i64 n3, .slice A3 m3 c3]] rfl rfl ?_ (fun w hw hH => HTX.out w hw) ?_
      · intro w hw
        clear hw
        go_simp
      try simp only [Act.put, List.setIfInBounds_toArray, List.set_cons_zero, List.set_cons_succ]
      refine LooseD.reads (.string ⟨#[]⟩) rfl rfl ?_ ?_
      · intro w hw
        clear hw
        go_simp
      try simp only [Act.put, List.setIfInBounds_toArray, List.set_cons_zero, List.set_cons_succ]
      refine LooseD.reads (.bool true) rfl rfl ?_ ?_
      · intro w hw
        clear hw
        go_simp
      try simp only [Act.put, List.setIfInBounds_toArray, List.set_cons_zero, List.set_cons_succ]
      refine LooseD.reads (.bool true) rfl rfl ?_ ?_
      · intro w hw
        clear hw
        go_simp
      try simp only [Act.put, List.setIfInBounds_toArray, List.set_cons_zero, List.set_cons_succ]
      refine LooseD.reads (.bool true) rfl rfl ?_ ?_
      · intro w hw
        clear hw
        go_simp
      try simp only [Act.put, List.setIfInBounds_toArray, List.set_cons_zero, List.set_cons_succ]
      refine LooseD.reads (.agg #[.int .i64 n3, .slice A3 m3 c3]) rfl rfl ?_ ?_
      · intro w hw
        obtain ⟨y0, y1⟩ := HTC.out w hw
        clear hw
        go_simp
      try simp only [Act.put, List.setIfInBounds_toArray, List.set_cons_zero, List.set_cons_succ]
      refine LooseD.reads (.agg #[.int .i64 n4, .slice A4 m4 c4]) rfl rfl ?_ ?_
      · intro w hw
        obtain ⟨y0, y1⟩ := HUC.out w hw
        clear hw
        go_simp
      try simp only [Act.put, List.setIfInBounds_toArray, List.set_cons_zero, List.set_cons_succ]
      refine LooseD.gives (.bool sm) 16 #[.agg #[.int .i64 n3, .slice A3 m3 c3], .agg #[.int .i64 n4, .slice A4 m4 c4]] rfl rfl ?_ (fun w hw hH => HSA.out w hw) ?_
      · intro w hw
        clear hw
        go_simp
      try simp only [Act.put, List.setIfInBounds_toArray, List.set_cons_zero, List.set_cons_succ]
      refine LooseD.reads (.agg #[.int .i64 n5, .slice A5 m5 c5]) rfl rfl ?_ ?_
      · intro w hw
        obtain ⟨y0, y1⟩ := HAC.out w hw
        clear hw
        go_simp
      try simp only [Act.put, List.setIfInBounds_toArray, List.set_cons_zero, List.set_cons_succ]
      refine LooseD.reads (.agg #[.int .i64 n6, .slice A6 m6 c6]) rfl rfl ?_ ?_
      · intro w hw
        obtain ⟨y0, y1⟩ := HDC.out w hw
        clear hw
        go_simp
      try simp only [Act.put, List.setIfInBounds_toArray, List.set_cons_zero, List.set_cons_succ]
      refine LooseD.gives (.bool sm) 17 #[.agg #[.int .i64 n5, .slice A5 m5 c5], .agg #[.int .i64 n6, .slice A6 m6 c6]] rfl rfl ?_ (fun w hw hH => HRS.out w hw) ?_
      · intro w hw
        clear hw
        go_simp
      try simp only [Act.put, List.setIfInBounds_toArray, List.set_cons_zero, List.set_cons_succ]
      refine LooseD.reads (.bool true) rfl rfl ?_ ?_
      · intro w hw
        clear hw
        go_simp
      try simp only [Act.put, List.setIfInBounds_toArray, List.set_cons_zero, List.set_cons_succ]
      refine LooseD.reads (.bool true) rfl rfl ?_ ?_
      · intro w hw
        clear hw
        go_simp
      try simp only [Act.put, List.setIfInBounds_toArray, List.set_cons_zero, List.set_cons_succ]
      refine LooseD.reads (.bool true) rfl rfl ?_ ?_
      · intro w hw
        clear hw
        go_simp
      try simp only [Act.put, List.setIfInBounds_toArray, List.set_cons_zero, List.set_cons_succ]
      refine LooseD.reads (.agg #[.int .i64 n3, .slice A3 m3 c3]) rfl rfl ?_ ?_
      · intro w hw
        obtain ⟨y0, y1⟩ := HTC.out w hw
        clear hw
        go_simp
      try simp only [Act.put, List.setIfInBounds_toArray, List.set_cons_zero, List.set_cons_succ]
      refine LooseD.reads (.agg #[.int .i64 n3, .slice A3 m3 c3]) rfl rfl ?_ ?_
      · intro w hw
        obtain ⟨y0, y1⟩ := HTC.out w hw
        clear hw
        go_simp
      try simp only [Act.put, List.setIfInBounds_toArray, List.set_cons_zero, List.set_cons_succ]
      refine LooseD.gives (.bool true) 16 #[.agg #[.int .i64 n3, .slice A3 m3 c3], .agg #[.int .i64 n3, .slice A3 m3 c3]] rfl rfl ?_ (fun w hw hH => HST.out w hw) ?_
      · intro w hw
        clear hw
        go_simp
      try simp only [Act.put, List.setIfInBounds_toArray, List.set_cons_zero, List.set_cons_succ]
      refine LooseD.reads (.bool true) rfl rfl ?_ ?_
      · intro w hw
        clear hw
        go_simp
      try simp only [Act.put, List.setIfInBounds_toArray, List.set_cons_zero, List.set_cons_succ]
      refine LooseD.reads (.bool true) rfl rfl ?_ ?_
      · intro w hw
        clear hw
        go_simp
      try simp only [Act.put, List.setIfInBounds_toArray, List.set_cons_zero, List.set_cons_succ]
      refine LooseD.reads (.agg #[.int .i64 n3, .slice A3 m3 c3]) rfl rfl ?_ ?_
      · intro w hw
        obtain ⟨y0, y1⟩ := HTC.out w hw
        clear hw
        go_simp
      try simp only [Act.put, List.setIfInBounds_toArray, List.set_cons_zero, List.set_cons_succ]
      refine LooseD.calls (tN (yieldT t)) 19 #[.agg #[.int .i64 n3, .slice A3 m3 c3]] rfl rfl ?_ (fun w hw _ => HYI.out w hw) (fun v28 => ?_)
      · intro w hw
        clear hw
        go_simp
      try simp only [Act.put, List.setIfInBounds_toArray, List.set_cons_zero, List.set_cons_succ]
      refine LooseD.reads (.agg #[.int .i64 n5, .slice A5 m5 c5]) rfl rfl ?_ ?_
      · intro w hw
        obtain ⟨y0, y1⟩ := HAC.out w hw
        clear hw
        go_simp
      try simp only [Act.put, List.setIfInBounds_toArray, List.set_cons_zero, List.set_cons_succ]
      refine LooseD.calls (tN (yieldT t)) 20 #[.agg #[.int .i64 n5, .slice A5 m5 c5]] rfl rfl ?_ (fun w hw _ => HRY.out w hw) (fun v30 => ?_)
      · intro w hw
        clear hw
        go_simp
      try simp only [Act.put, List.setIfInBounds_toArray, List.set_cons_zero, List.set_cons_succ]
      refine LooseD.gives (.bool true) 18 #[v28, v30] rfl rfl ?_ (fun w hw hH => num_told HYL.out w v28 v30 (hH 28 (by decide) v28 _ rfl rfl) (hH 30 (by decide) v30 _ rfl rfl)) ?_
      · intro w hw
        clear hw
        go_simp
      try simp only [Act.put, List.setIfInBounds_toArray, List.set_cons_zero, List.set_cons_succ]
      refine LooseD.reads (.bool true) rfl rfl ?_ ?_
      · intro w hw
        clear hw
        go_simp
      try simp only [Act.put, List.setIfInBounds_toArray, List.set_cons_zero, List.set_cons_succ]
      refine LooseD.reads (.bool true) rfl rfl ?_ ?_
      · intro w hw
        clear hw
        go_simp
      try simp only [Act.put, List.setIfInBounds_toArray, List.set_cons_zero, List.set_cons_succ]
      refine LooseD.reads (.int .i64 nn) rfl rfl ?_ ?_
      · intro w hw
        clear hw
        go_simp
      try simp only [Act.put, List.setIfInBounds_toArray, List.set_cons_zero, List.set_cons_succ]
      refine LooseD.reads (.agg #[.int .i64 n5, .slice A5 m5 c5]) rfl rfl ?_ ?_
      · intro w hw
        obtain ⟨y0, y1⟩ := HAC.out w hw
        clear hw
        go_simp
      try simp only [Act.put, List.setIfInBounds_toArray, List.set_cons_zero, List.set_cons_succ]
      refine LooseD.gives (.int .i64 nn) 21 #[.agg #[.int .i64 n5, .slice A5 m5 c5]] rfl rfl ?_ (fun w hw hH => HNO.out w hw) ?_
      · intro w hw
        clear hw
        go_simp
      try simp only [Act.put, List.setIfInBounds_toArray, List.set_cons_zero, List.set_cons_succ]
      refine LooseD.reads (.bool true) rfl rfl ?_ ?_
      · intro w hw
        clear hw
        go_simp
      try simp only [Act.put, List.setIfInBounds_toArray, List.set_cons_zero, List.set_cons_succ]
      refine LooseD.reads (.bool true) rfl rfl ?_ ?_
      · intro w hw
        clear hw
        go_simp
      try simp only [Act.put, List.setIfInBounds_toArray, List.set_cons_zero, List.set_cons_succ]
      refine LooseD.reads (.bool true) rfl rfl ?_ ?_
      · intro w hw
        clear hw
        go_simp
      try simp only [Act.put, List.setIfInBounds_toArray, List.set_cons_zero, List.set_cons_succ]
      refine LooseD.reads (.int .i64 dd) rfl rfl ?_ ?_
      · intro w hw
        clear hw
        go_simp
      try simp only [Act.put, List.setIfInBounds_toArray, List.set_cons_zero, List.set_cons_succ]
      refine LooseD.reads (.agg #[.int .i64 n5, .slice A5 m5 c5]) rfl rfl ?_ ?_
      · intro w hw
        obtain ⟨y0, y1⟩ := HAC.out w hw
        clear hw
        go_simp
      try simp only [Act.put, List.setIfInBounds_toArray, List.set_cons_zero, List.set_cons_succ]
      refine LooseD.gives (.int .i64 dd) 22 #[.agg #[.int .i64 n5, .slice A5 m5 c5]] rfl rfl ?_ (fun w hw hH => HDE.out w hw) ?_
      · intro w hw
        clear hw
        go_simp
      try simp only [Act.put, List.setIfInBounds_toArray, List.set_cons_zero, List.set_cons_succ]
      refine LooseD.reads (.bool true) rfl rfl ?_ ?_
      · intro w hw
        clear hw
        go_simp
      try simp only [Act.put, List.setIfInBounds_toArray, List.set_cons_zero, List.set_cons_succ]
      refine LooseD.reads (.bool true) rfl rfl ?_ ?_
      · intro w hw
        clear hw
        go_simp
      try simp only [Act.put, List.setIfInBounds_toArray, List.set_cons_zero, List.set_cons_succ]
      refine LooseD.reads (.bool true) rfl rfl ?_ ?_
      · intro w hw
        clear hw
        go_simp
      try simp only [Act.put, List.setIfInBounds_toArray, List.set_cons_zero, List.set_cons_succ]
      refine LooseD.reads (.agg #[.int .i64 n3, .slice A3 m3 c3]) rfl rfl ?_ ?_
      · intro w hw
        obtain ⟨y0, y1⟩ := HTC.out w hw
        clear hw
        go_simp
      try simp only [Act.put, List.setIfInBounds_toArray, List.set_cons_zero, List.set_cons_succ]
      refine LooseD.calls (tN (prodT t)) 23 #[.agg #[.int .i64 n3, .slice A3 m3 c3]] rfl rfl ?_ (fun w hw _ => HLE.out w hw) (fun v47 => ?_)
      · intro w hw
        clear hw
        go_simp
      try simp only [Act.put, List.setIfInBounds_toArray, List.set_cons_zero, List.set_cons_succ]
      refine LooseD.reads (.agg #[.int .i64 n5, .slice A5 m5 c5]) rfl rfl ?_ ?_
      · intro w hw
        obtain ⟨y0, y1⟩ := HAC.out w hw
        clear hw
        go_simp
      try simp only [Act.put, List.setIfInBounds_toArray, List.set_cons_zero, List.set_cons_succ]
      refine LooseD.calls (tN (prodT t)) 24 #[.agg #[.int .i64 n5, .slice A5 m5 c5]] rfl rfl ?_ (fun w hw _ => HRL.out w hw) (fun v49 => ?_)
      · intro w hw
        clear hw
        go_simp
      try simp only [Act.put, List.setIfInBounds_toArray, List.set_cons_zero, List.set_cons_succ]
      refine LooseD.gives (.bool true) 18 #[v47, v49] rfl rfl ?_ (fun w hw hH => num_told HPL.out w v47 v49 (hH 47 (by decide) v47 _ rfl rfl) (hH 49 (by decide) v49 _ rfl rfl)) ?_
      · intro w hw
        clear hw
        go_simp
      try simp only [Act.put, List.setIfInBounds_toArray, List.set_cons_zero, List.set_cons_succ]
      refine LooseD.reads (.bool true) rfl rfl ?_ ?_
      · intro w hw
        clear hw
        go_simp
      try simp only [Act.put, List.setIfInBounds_toArray, List.set_cons_zero, List.set_cons_succ]
      refine LooseD.reads (.bool true) rfl rfl ?_ ?_
      · intro w hw
        clear hw
        go_simp
      try simp only [Act.put, List.setIfInBounds_toArray, List.set_cons_zero, List.set_cons_succ]
      refine LooseD.reads (.agg #[.int .i64 n3, .slice A3 m3 c3]) rfl rfl ?_ ?_
      · intro w hw
        obtain ⟨y0, y1⟩ := HTC.out w hw
        clear hw
        go_simp
      try simp only [Act.put, List.setIfInBounds_toArray, List.set_cons_zero, List.set_cons_succ]
      refine LooseD.gives (.string pt) 25 #[.agg #[.int .i64 n3, .slice A3 m3 c3]] rfl rfl ?_ (fun w hw hH => HPU.out w hw) ?_
      · intro w hw
        clear hw
        go_simp
      try simp only [Act.put, List.setIfInBounds_toArray, List.set_cons_zero, List.set_cons_succ]
      refine LooseD.reads (.agg #[.int .i64 n5, .slice A5 m5 c5]) rfl rfl ?_ ?_
      · intro w hw
        obtain ⟨y0, y1⟩ := HAC.out w hw
        clear hw
        go_simp
      try simp only [Act.put, List.setIfInBounds_toArray, List.set_cons_zero, List.set_cons_succ]
      refine LooseD.gives (.string pt) 26 #[.agg #[.int .i64 n5, .slice A5 m5 c5]] rfl rfl ?_ (fun w hw hH => HRP.out w hw) ?_
      · intro w hw
        clear hw
        go_simp
      try simp only [Act.put, List.setIfInBounds_toArray, List.set_cons_zero, List.set_cons_succ]
      refine LooseD.reads (.bool true) rfl rfl ?_ ?_
      · intro w hw
        clear hw
        go_simp
      try simp only [Act.put, List.setIfInBounds_toArray, List.set_cons_zero, List.set_cons_succ]
      refine LooseD.reads (.bool true) rfl rfl ?_ ?_
      · intro w hw
        clear hw
        go_simp
      try simp only [Act.put, List.setIfInBounds_toArray, List.set_cons_zero, List.set_cons_succ]
      refine LooseD.reads (.bool true) rfl rfl ?_ ?_
      · intro w hw
        clear hw
        go_simp
      try simp only [Act.put, List.setIfInBounds_toArray, List.set_cons_zero, List.set_cons_succ]
      refine LooseD.done ?_
      intro w9 hw9 hF
      have HB9 := Lib.hid hw9
      clear hF hw9
      go_wp2_with fail
      go_ret
      exact ⟨rfl, HWC.out.trans (HB9.out.mono HWC.out.size)⟩
    | true =>
      obtain ⟨y0, y1, y2, y3, y4⟩ := HQC.out w7 HB7.out
      obtain ⟨z0, z1⟩ := HAC.out w7 HB7.out
      go_wp2_with fail
      refine (HRX.out w7 HB7.out (by simp)).mono ?_
      rintro e w8 ⟨rfl, hb8⟩
      have HB8 := Lib.hid (HB7.out.trans (hb8.mono HB7.out.size))
      clear y0 y1 y2 y3 y4 z0 z1 hb8 HRX HWT
      go_upto_region 11 with fail
      refine LooseD.region_loose (fun w => Below wc.heap.size wc w) _ _ (by kernel_rfl) (by kernel_rfl)
        (LooseD.waits (D := [[], [], [], [], [], [], [], [], [], [], [], [], [], [], [], [], [], [], [], [], [], [], [], [], [], [], [], [], [], [], [], [28, 30], [], [], [], [], [], [], [], [], [], [], [], [], [], [], [], [], [], [], [47, 49], [], [], [], [], [], [], [], [], []]) (by kernel_rfl))
        (LooseD.stays (ts := [none, none, some (.is (.bool true)), none, none, none, none, none, some (.is (.string wt)), none, none, none, none, none, none, some (.is (.bool sm)), none, none, some (.is (.bool sm)), none, none, none, none, none, some (.is (.bool true)), none, none, none, some (.told (tN (yieldT t))), none, some (.told (tN (yieldT t))), some (.is (.bool true)), none, none, none, none, some (.is (.int .i64 nn)), none, none, none, none, none, some (.is (.int .i64 dd)), none, none, none, none, some (.told (tN (prodT t))), none, some (.told (tN (prodT t))), some (.is (.bool true)), none, none, none, some (.is (.string pt)), none, some (.is (.string pt)), none, none, none]) (fun w w' h b => h.trans (b.mono h.size)) (.none (.none (.is (.none (.none (.none (.none (.none (.is (.none (.none (.none (.none (.none (.none (.is (.none (.none (.is (.none (.none (.none (.none (.none (.is (.none (.none (.none (.told (tN_st _) (.none (.told (tN_st _) (.is (.none (.none (.none (.none (.is (.none (.none (.none (.none (.none (.is (.none (.none (.none (.none (.told (tN_st _) (.none (.told (tN_st _) (.is (.none (.none (.none (.is (.none (.is (.none (.none (.none .nil)))))))))))))))))))))))))))))))))))))))))))))))))))))))))))))
        HB8.out.drew ?_
      refine LooseD.reads (.agg #[.int .i64 st, .int .i64 ru, .slice An n cn, .slice At_ lt ct, .slice Ap np cp]) rfl rfl ?_ ?_
      · intro w hw
        obtain ⟨y0, y1, y2, y3, y4⟩ := HPC.out w hw
        clear hw
        go_simp
      try simp only [Act.put, List.setIfInBounds_toArray, List.set_cons_zero, List.set_cons_succ]
      refine LooseD.reads (.agg #[.int .i64 n3, .slice A3 m3 c3]) rfl rfl ?_ ?_
      · intro w hw
        obtain ⟨y0, y1⟩ := HTC.out w hw
        clear hw
        go_simp
      try simp only [Act.put, List.setIfInBounds_toArray, List.set_cons_zero, List.set_cons_succ]
      refine LooseD.gives (.bool true) 14 #[.agg #[.int .i64 st, .int .i64 ru, .slice An n cn, .slice At_ lt ct, .slice Ap np cp], .agg #[.int .i64 n3, .slice A3 m3 c3]] rfl rfl ?_ (fun w hw hH => HCK.out w hw) ?_
      · intro w hw
        clear hw
        go_simp
      try simp only [Act.put, List.setIfInBounds_toArray, List.set_cons_zero, List.set_cons_succ]
      refine LooseD.reads (.bool true) rfl rfl ?_ ?_
      · intro w hw
        clear hw
        go_simp
      try simp only [Act.put, List.setIfInBounds_toArray, List.set_cons_zero, List.set_cons_succ]
      refine LooseD.reads (.bool true) rfl rfl ?_ ?_
      · intro w hw
        clear hw
        go_simp
      try simp only [Act.put, List.setIfInBounds_toArray, List.set_cons_zero, List.set_cons_succ]
      refine LooseD.reads (.bool true) rfl rfl ?_ ?_
      · intro w hw
        clear hw
        go_simp
      try simp only [Act.put, List.setIfInBounds_toArray, List.set_cons_zero, List.set_cons_succ]
      refine LooseD.reads (.agg #[.int .i64 st, .int .i64 ru, .slice An n cn, .slice At_ lt ct, .slice Ap np cp]) rfl rfl ?_ ?_
      · intro w hw
        obtain ⟨y0, y1, y2, y3, y4⟩ := HPC.out w hw
        clear hw
        go_simp
      try simp only [Act.put, List.setIfInBounds_toArray, List.set_cons_zero, List.set_cons_succ]
      refine LooseD.reads (.agg #[.int .i64 n3, .slice A3 m3 c3]) rfl rfl ?_ ?_
      · intro w hw
        obtain ⟨y0, y1⟩ := HTC.out w hw
        clear hw
        go_simp
      try simp only [Act.put, List.setIfInBounds_toArray, List.set_cons_zero, List.set_cons_succ]
      refine LooseD.gives (.string wt) 15 #[.agg #[.int .i64 st, .int .i64 ru, .slice An n cn, .slice At_ lt ct, .slice Ap np cp], .agg #[.int .i64 n3, .slice A3 m3 c3]] rfl rfl ?_ (fun w hw hH => HTX.out w hw) ?_
      · intro w hw
        clear hw
        go_simp
      try simp only [Act.put, List.setIfInBounds_toArray, List.set_cons_zero, List.set_cons_succ]
      refine LooseD.reads (.string wt) rfl rfl ?_ ?_
      · intro w hw
        clear hw
        go_simp
      try simp only [Act.put, List.setIfInBounds_toArray, List.set_cons_zero, List.set_cons_succ]
      refine LooseD.reads (.bool true) rfl rfl ?_ ?_
      · intro w hw
        clear hw
        go_simp
      try simp only [Act.put, List.setIfInBounds_toArray, List.set_cons_zero, List.set_cons_succ]
      refine LooseD.reads (.bool true) rfl rfl ?_ ?_
      · intro w hw
        clear hw
        go_simp
      try simp only [Act.put, List.setIfInBounds_toArray, List.set_cons_zero, List.set_cons_succ]
      refine LooseD.reads (.bool true) rfl rfl ?_ ?_
      · intro w hw
        clear hw
        go_simp
      try simp only [Act.put, List.setIfInBounds_toArray, List.set_cons_zero, List.set_cons_succ]
      refine LooseD.reads (.agg #[.int .i64 n3, .slice A3 m3 c3]) rfl rfl ?_ ?_
      · intro w hw
        obtain ⟨y0, y1⟩ := HTC.out w hw
        clear hw
        go_simp
      try simp only [Act.put, List.setIfInBounds_toArray, List.set_cons_zero, List.set_cons_succ]
      refine LooseD.reads (.agg #[.int .i64 n4, .slice A4 m4 c4]) rfl rfl ?_ ?_
      · intro w hw
        obtain ⟨y0, y1⟩ := HUC.out w hw
        clear hw
        go_simp
      try simp only [Act.put, List.setIfInBounds_toArray, List.set_cons_zero, List.set_cons_succ]
      refine LooseD.gives (.bool sm) 16 #[.agg #[.int .i64 n3, .slice A3 m3 c3], .agg #[.int .i64 n4, .slice A4 m4 c4]] rfl rfl ?_ (fun w hw hH => HSA.out w hw) ?_
      · intro w hw
        clear hw
        go_simp
      try simp only [Act.put, List.setIfInBounds_toArray, List.set_cons_zero, List.set_cons_succ]
      refine LooseD.reads (.agg #[.int .i64 n5, .slice A5 m5 c5]) rfl rfl ?_ ?_
      · intro w hw
        obtain ⟨y0, y1⟩ := HAC.out w hw
        clear hw
        go_simp
      try simp only [Act.put, List.setIfInBounds_toArray, List.set_cons_zero, List.set_cons_succ]
      refine LooseD.reads (.agg #[.int .i64 n6, .slice A6 m6 c6]) rfl rfl ?_ ?_
      · intro w hw
        obtain ⟨y0, y1⟩ := HDC.out w hw
        clear hw
        go_simp
      try simp only [Act.put, List.setIfInBounds_toArray, List.set_cons_zero, List.set_cons_succ]
      refine LooseD.gives (.bool sm) 17 #[.agg #[.int .i64 n5, .slice A5 m5 c5], .agg #[.int .i64 n6, .slice A6 m6 c6]] rfl rfl ?_ (fun w hw hH => HRS.out w hw) ?_
      · intro w hw
        clear hw
        go_simp
      try simp only [Act.put, List.setIfInBounds_toArray, List.set_cons_zero, List.set_cons_succ]
      refine LooseD.reads (.bool true) rfl rfl ?_ ?_
      · intro w hw
        clear hw
        go_simp
      try simp only [Act.put, List.setIfInBounds_toArray, List.set_cons_zero, List.set_cons_succ]
      refine LooseD.reads (.bool true) rfl rfl ?_ ?_
      · intro w hw
        clear hw
        go_simp
      try simp only [Act.put, List.setIfInBounds_toArray, List.set_cons_zero, List.set_cons_succ]
      refine LooseD.reads (.bool true) rfl rfl ?_ ?_
      · intro w hw
        clear hw
        go_simp
      try simp only [Act.put, List.setIfInBounds_toArray, List.set_cons_zero, List.set_cons_succ]
      refine LooseD.reads (.agg #[.int .i64 n3, .slice A3 m3 c3]) rfl rfl ?_ ?_
      · intro w hw
        obtain ⟨y0, y1⟩ := HTC.out w hw
        clear hw
        go_simp
      try simp only [Act.put, List.setIfInBounds_toArray, List.set_cons_zero, List.set_cons_succ]
      refine LooseD.reads (.agg #[.int .i64 n3, .slice A3 m3 c3]) rfl rfl ?_ ?_
      · intro w hw
        obtain ⟨y0, y1⟩ := HTC.out w hw
        clear hw
        go_simp
      try simp only [Act.put, List.setIfInBounds_toArray, List.set_cons_zero, List.set_cons_succ]
      refine LooseD.gives (.bool true) 16 #[.agg #[.int .i64 n3, .slice A3 m3 c3], .agg #[.int .i64 n3, .slice A3 m3 c3]] rfl rfl ?_ (fun w hw hH => HST.out w hw) ?_
      · intro w hw
        clear hw
        go_simp
      try simp only [Act.put, List.setIfInBounds_toArray, List.set_cons_zero, List.set_cons_succ]
      refine LooseD.reads (.bool true) rfl rfl ?_ ?_
      · intro w hw
        clear hw
        go_simp
      try simp only [Act.put, List.setIfInBounds_toArray, List.set_cons_zero, List.set_cons_succ]
      refine LooseD.reads (.bool true) rfl rfl ?_ ?_
      · intro w hw
        clear hw
        go_simp
      try simp only [Act.put, List.setIfInBounds_toArray, List.set_cons_zero, List.set_cons_succ]
      refine LooseD.reads (.agg #[.int .i64 n3, .slice A3 m3 c3]) rfl rfl ?_ ?_
      · intro w hw
        obtain ⟨y0, y1⟩ := HTC.out w hw
        clear hw
        go_simp
      try simp only [Act.put, List.setIfInBounds_toArray, List.set_cons_zero, List.set_cons_succ]
      refine LooseD.calls (tN (yieldT t)) 19 #[.agg #[.int .i64 n3, .slice A3 m3 c3]] rfl rfl ?_ (fun w hw _ => HYI.out w hw) (fun v28 => ?_)
      · intro w hw
        clear hw
        go_simp
      try simp only [Act.put, List.setIfInBounds_toArray, List.set_cons_zero, List.set_cons_succ]
      refine LooseD.reads (.agg #[.int .i64 n5, .slice A5 m5 c5]) rfl rfl ?_ ?_
      · intro w hw
        obtain ⟨y0, y1⟩ := HAC.out w hw
        clear hw
        go_simp
      try simp only [Act.put, List.setIfInBounds_toArray, List.set_cons_zero, List.set_cons_succ]
      refine LooseD.calls (tN (yieldT t)) 20 #[.agg #[.int .i64 n5, .slice A5 m5 c5]] rfl rfl ?_ (fun w hw _ => HRY.out w hw) (fun v30 => ?_)
      · intro w hw
        clear hw
        go_simp
      try simp only [Act.put, List.setIfInBounds_toArray, List.set_cons_zero, List.set_cons_succ]
      refine LooseD.gives (.bool true) 18 #[v28, v30] rfl rfl ?_ (fun w hw hH => num_told HYL.out w v28 v30 (hH 28 (by decide) v28 _ rfl rfl) (hH 30 (by decide) v30 _ rfl rfl)) ?_
      · intro w hw
        clear hw
        go_simp
      try simp only [Act.put, List.setIfInBounds_toArray, List.set_cons_zero, List.set_cons_succ]
      refine LooseD.reads (.bool true) rfl rfl ?_ ?_
      · intro w hw
        clear hw
        go_simp
      try simp only [Act.put, List.setIfInBounds_toArray, List.set_cons_zero, List.set_cons_succ]
      refine LooseD.reads (.bool true) rfl rfl ?_ ?_
      · intro w hw
        clear hw
        go_simp
      try simp only [Act.put, List.setIfInBounds_toArray, List.set_cons_zero, List.set_cons_succ]
      refine LooseD.reads (.int .i64 nn) rfl rfl ?_ ?_
      · intro w hw
        clear hw
        go_simp
      try simp only [Act.put, List.setIfInBounds_toArray, List.set_cons_zero, List.set_cons_succ]
      refine LooseD.reads (.agg #[.int .i64 n5, .slice A5 m5 c5]) rfl rfl ?_ ?_
      · intro w hw
        obtain ⟨y0, y1⟩ := HAC.out w hw
        clear hw
        go_simp
      try simp only [Act.put, List.setIfInBounds_toArray, List.set_cons_zero, List.set_cons_succ]
      refine LooseD.gives (.int .i64 nn) 21 #[.agg #[.int .i64 n5, .slice A5 m5 c5]] rfl rfl ?_ (fun w hw hH => HNO.out w hw) ?_
      · intro w hw
        clear hw
        go_simp
      try simp only [Act.put, List.setIfInBounds_toArray, List.set_cons_zero, List.set_cons_succ]
      refine LooseD.reads (.bool true) rfl rfl ?_ ?_
      · intro w hw
        clear hw
        go_simp
      try simp only [Act.put, List.setIfInBounds_toArray, List.set_cons_zero, List.set_cons_succ]
      refine LooseD.reads (.bool true) rfl rfl ?_ ?_
      · intro w hw
        clear hw
        go_simp
      try simp only [Act.put, List.setIfInBounds_toArray, List.set_cons_zero, List.set_cons_succ]
      refine LooseD.reads (.bool true) rfl rfl ?_ ?_
      · intro w hw
        clear hw
        go_simp
      try simp only [Act.put, List.setIfInBounds_toArray, List.set_cons_zero, List.set_cons_succ]
      refine LooseD.reads (.int .i64 dd) rfl rfl ?_ ?_
      · intro w hw
        clear hw
        go_simp
      try simp only [Act.put, List.setIfInBounds_toArray, List.set_cons_zero, List.set_cons_succ]
      refine LooseD.reads (.agg #[.int .i64 n5, .slice A5 m5 c5]) rfl rfl ?_ ?_
      · intro w hw
        obtain ⟨y0, y1⟩ := HAC.out w hw
        clear hw
        go_simp
      try simp only [Act.put, List.setIfInBounds_toArray, List.set_cons_zero, List.set_cons_succ]
      refine LooseD.gives (.int .i64 dd) 22 #[.agg #[.int .i64 n5, .slice A5 m5 c5]] rfl rfl ?_ (fun w hw hH => HDE.out w hw) ?_
      · intro w hw
        clear hw
        go_simp
      try simp only [Act.put, List.setIfInBounds_toArray, List.set_cons_zero, List.set_cons_succ]
      refine LooseD.reads (.bool true) rfl rfl ?_ ?_
      · intro w hw
        clear hw
        go_simp
      try simp only [Act.put, List.setIfInBounds_toArray, List.set_cons_zero, List.set_cons_succ]
      refine LooseD.reads (.bool true) rfl rfl ?_ ?_
      · intro w hw
        clear hw
        go_simp
      try simp only [Act.put, List.setIfInBounds_toArray, List.set_cons_zero, List.set_cons_succ]
      refine LooseD.reads (.bool true) rfl rfl ?_ ?_
      · intro w hw
        clear hw
        go_simp
      try simp only [Act.put, List.setIfInBounds_toArray, List.set_cons_zero, List.set_cons_succ]
      refine LooseD.reads (.agg #[.int .i64 n3, .slice A3 m3 c3]) rfl rfl ?_ ?_
      · intro w hw
        obtain ⟨y0, y1⟩ := HTC.out w hw
        clear hw
        go_simp
      try simp only [Act.put, List.setIfInBounds_toArray, List.set_cons_zero, List.set_cons_succ]
      refine LooseD.calls (tN (prodT t)) 23 #[.agg #[.int .i64 n3, .slice A3 m3 c3]] rfl rfl ?_ (fun w hw _ => HLE.out w hw) (fun v47 => ?_)
      · intro w hw
        clear hw
        go_simp
      try simp only [Act.put, List.setIfInBounds_toArray, List.set_cons_zero, List.set_cons_succ]
      refine LooseD.reads (.agg #[.int .i64 n5, .slice A5 m5 c5]) rfl rfl ?_ ?_
      · intro w hw
        obtain ⟨y0, y1⟩ := HAC.out w hw
        clear hw
        go_simp
      try simp only [Act.put, List.setIfInBounds_toArray, List.set_cons_zero, List.set_cons_succ]
      refine LooseD.calls (tN (prodT t)) 24 #[.agg #[.int .i64 n5, .slice A5 m5 c5]] rfl rfl ?_ (fun w hw _ => HRL.out w hw) (fun v49 => ?_)
      · intro w hw
        clear hw
        go_simp
      try simp only [Act.put, List.setIfInBounds_toArray, List.set_cons_zero, List.set_cons_succ]
      refine LooseD.gives (.bool true) 18 #[v47, v49] rfl rfl ?_ (fun w hw hH => num_told HPL.out w v47 v49 (hH 47 (by decide) v47 _ rfl rfl) (hH 49 (by decide) v49 _ rfl rfl)) ?_
      · intro w hw
        clear hw
        go_simp
      try simp only [Act.put, List.setIfInBounds_toArray, List.set_cons_zero, List.set_cons_succ]
      refine LooseD.reads (.bool true) rfl rfl ?_ ?_
      · intro w hw
        clear hw
        go_simp
      try simp only [Act.put, List.setIfInBounds_toArray, List.set_cons_zero, List.set_cons_succ]
      refine LooseD.reads (.bool true) rfl rfl ?_ ?_
      · intro w hw
        clear hw
        go_simp
      try simp only [Act.put, List.setIfInBounds_toArray, List.set_cons_zero, List.set_cons_succ]
      refine LooseD.reads (.agg #[.int .i64 n3, .slice A3 m3 c3]) rfl rfl ?_ ?_
      · intro w hw
        obtain ⟨y0, y1⟩ := HTC.out w hw
        clear hw
        go_simp
      try simp only [Act.put, List.setIfInBounds_toArray, List.set_cons_zero, List.set_cons_succ]
      refine LooseD.gives (.string pt) 25 #[.agg #[.int .i64 n3, .slice A3 m3 c3]] rfl rfl ?_ (fun w hw hH => HPU.out w hw) ?_
      · intro w hw
        clear hw
        go_simp
      try simp only [Act.put, List.setIfInBounds_toArray, List.set_cons_zero, List.set_cons_succ]
      refine LooseD.reads (.agg #[.int .i64 n5, .slice A5 m5 c5]) rfl rfl ?_ ?_
      · intro w hw
        obtain ⟨y0, y1⟩ := HAC.out w hw
        clear hw
        go_simp
      try simp only [Act.put, List.setIfInBounds_toArray, List.set_cons_zero, List.set_cons_succ]
      refine LooseD.gives (.string pt) 26 #[.agg #[.int .i64 n5, .slice A5 m5 c5]] rfl rfl ?_ (fun w hw hH => HRP.out w hw) ?_
      · intro w hw
        clear hw
        go_simp
      try simp only [Act.put, List.setIfInBounds_toArray, List.set_cons_zero, List.set_cons_succ]
      refine LooseD.reads (.bool true) rfl rfl ?_ ?_
      · intro w hw
        clear hw
        go_simp
      try simp only [Act.put, List.setIfInBounds_toArray, List.set_cons_zero, List.set_cons_succ]
      refine LooseD.reads (.bool true) rfl rfl ?_ ?_
      · intro w hw
        clear hw
        go_simp
      try simp only [Act.put, List.setIfInBounds_toArray, List.set_cons_zero, List.set_cons_succ]
      refine LooseD.reads (.bool true) rfl rfl ?_ ?_
      · intro w hw
        clear hw
        go_simp
      try simp only [Act.put, List.setIfInBounds_toArray, List.set_cons_zero, List.set_cons_succ]
      refine LooseD.done ?_
      intro w9 hw9 hF
      have HB9 := Lib.hid hw9
      clear hF hw9
      go_wp2_with fail
      go_ret
      exact ⟨rfl, HWC.out.trans (HB9.out.mono HWC.out.size)⟩
end Go.Proofs.Ytdknlifpoihnmaa.Fx
