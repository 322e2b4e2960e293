/-
  Layer 14: the walk of TreeReplays.
-/
import Derived.Test.YtjlppffkacimoaaTrMadeW
import Derived.Test.YtjlppffkacimoaaTrL
import Derived.Test.YtjlppffkacimoaaTrM
import Derived.Test.YtjlppffkacimoaaTrX
import Derived.Test.YtjlppffkacimoaaTrRead
namespace Go.Proofs.Ytjlppffkacimoaa.Fx
open Go.RowKit
set_option maxRecDepth 100000
set_option linter.unusedSimpArgs false
set_option linter.unusedVariables false
open Tr (replay_any rreplay_any speaks_any Played playR stepR step_len replayR)

def msR : Except Nat (List Int) → List Int
  | .error _ => []
  | .ok m => m
def cdR : Except Nat (List Int) → Nat
  | .error c => c
  | .ok _ => 0
theorem both {lo : Nat} {R : Except Nat (List Int)} {e : Ending} {w' : World} (h : Played lo R e w') : ∃ v, e = .returned (.tuple #[v, .int .i64 (cdR R)]) ∧ IntsAt (fun r => lo ≤ r) w' (msR R) v := by
  cases R with
  | error c => exact ⟨_, h, ⟨none, 0, 0, rfl, Nat.le_refl _, fun h => absurd h (by simp [msR]), fun i hi => absurd hi (by simp [msR])⟩⟩
  | ok m =>
    obtain ⟨v, h1, h2⟩ := h
    exact ⟨v, h1, h2⟩
theorem play_len {g : PG} : ∀ (l now m : List Int), now.length ≤ 65536 → playR g now l = .ok m → m.length ≤ 65536
  | [], now, m, h, e => by
    rw [playR] at e
    injection e with e
    rw [← e]; exact h
  | n :: r, now, m, h, e => by
    rw [playR] at e
    cases hs : stepR g now n with
    | error c => rw [hs] at e; cases e
    | ok m2 => rw [hs] at e; exact play_len r m2 m (step_len hs) e
theorem ms_len {g : PG} {s : Int} {l : List Int} : (msR (replayR g s l)).length ≤ 65536 := by
  cases hR : replayR g s l with
  | error c => exact Nat.zero_le _
  | ok m =>
    unfold replayR at hR
    split at hR
    · cases hR
    · exact play_len l [s] m (by simp) hR

set_option maxHeartbeats 8000000 in
theorem walk_reps (N T St : Int) (left : List Int) (right : List (List Int)) (W : World) (vl vr : Value) (hl : NumsIn W left vl) (hr : RowsIn W right vr) (hlm : left.length ≤ maxLen) (hrm : right.length ≤ maxLen) (hrm2 : ∀ r ∈ right, r.length ≤ maxLen) (s : Int) (l : List Int) (vq : Value) (hq : NumsAt W l vq) (hqm : l.length ≤ maxLen) :
    Calls Try.prog 5 #[.agg #[.int .i64 N, .int .i64 T, .int .i64 St, vl, vr], .int .i64 s, vq] W fun e w' => e = .returned (.bool true) ∧ Below W.heap.size W w' := by
  have HM := Lib.hid (fun w (b : Below W.heap.size W w) => made_any N T St left right w vl vr (hl.under b) (hr.under b) hlm hrm hrm2)
  have HS := Lib.hid (fun w => speaks_any w)
  obtain ⟨Aq, cq, rfl, hqc, hqn, hqi⟩ := hq
  obtain ⟨lq, hlq⟩ : ∃ lq, lq = l.length := ⟨_, rfl⟩
  rw [← hlq] at hqc hqm ⊢
  have HLQ := Lib.hid hlq
  have HQN := Lib.hid hqn
  have HQI := Lib.hid hqi
  clear hlq hqn hqi
  unfold maxLen at hqm
  obtain ⟨A, c, _, _, rfl, _⟩ := hl
  obtain ⟨Ar, cr, _, _, _, rfl, _⟩ := hr
  obtain ⟨nl, hnl⟩ : ∃ nl, nl = left.length := ⟨_, rfl⟩
  obtain ⟨nr, hnr⟩ : ∃ nr, nr = right.length := ⟨_, rfl⟩
  rw [← hnl, ← hnr] at HM ⊢
  clear hnl hnr hlm hrm hrm2
  have hb0 := (Below.refl W.heap.size W).alloc (Nat.le_refl _) (.cells #[.int .i64 N, .int .i64 T, .int .i64 St, .slice A nl c, .slice Ar nr cr] 25)
  have hx0 := heap_alloc_new W (.cells #[.int .i64 N, .int .i64 T, .int .i64 St, .slice A nl c, .slice Ar nr cr] 25)
  have HB0 := Lib.hid hb0
  have HX0 := Lib.hid hx0
  clear hb0 hx0
  go_enter Try.func5, Try.ntmps5
  go_wp2_with fail
  refine (HS.out _).mono ?_
  rintro e w1 ⟨rfl, b1⟩
  have hb1 := HB0.out.trans (b1.mono HB0.out.size)
  have hx1 := (b1.block W.heap.size (by simp)).trans HX0.out
  have HB1 := Lib.hid hb1
  have x0 := cell_of_row _ _ 0 _ _ (0, 0) hx1
  have x1 := cell_of_row _ _ 1 _ _ (0, 0) hx1
  have x2 := cell_of_row _ _ 2 _ _ (0, 0) hx1
  have x3 := cell_of_row _ _ 3 _ _ (0, 0) hx1
  have x4 := cell_of_row _ _ 4 _ _ (0, 0) hx1
  clear hb1 hx1 b1
  go_wp2_with fail
  refine (HM.out _ HB1.out).mono ?_
  rintro e w2 ⟨v, u, g, rfl, hM, hv, hu, b2⟩
  have hv' := hv
  have hu' := hu
  obtain ⟨An, At_, Ap, cn, ct, cp, rfl, _, _, hP⟩ := hv'.open_
  obtain ⟨Bn, Bt, Bp, dn, dt, dp, rfl, _, _, _⟩ := hu'.open_
  have HMD := Lib.hid hM
  have HV := Lib.hid hv
  have HU := Lib.hid hu
  have HP := Lib.hid hP
  have HB2 := Lib.hid (HB1.out.trans (b2.mono HB1.out.size))
  clear hM hv hv' hu hu' b2 hP
  have HF : g.Fits := HMD.out.fits g.start
  have hsd : soundB g = true := by have := HMD.out.sound g.start; rw [show g.from_ g.start = g from rfl] at this; rw [this, decide_eq_true_iff]; exact HMD.out.start
  have HSD := Lib.hid hsd
  have HFT := Lib.hid HF
  have hn1 := HMD.out.few.1
  have hn8 := HMD.out.few.2.1
  have hlt3 := HMD.out.few.2.2.1
  have hnp := HMD.out.few.2.2.2
  obtain ⟨n, hn⟩ : ∃ n, n = g.names.length := ⟨_, rfl⟩
  obtain ⟨np, hnp'⟩ : ∃ np, np = g.prods.length := ⟨_, rfl⟩
  have HNN := Lib.hid hn
  have HNP := Lib.hid hnp'
  obtain ⟨st, hst⟩ : ∃ st : Nat, g.start = (st : Int) := ⟨g.start.toNat, by have := HMD.out.start.1; omega⟩
  have hstn : st < n := by have := HMD.out.start.2; omega
  have HST := Lib.hid hst
  rw [← hn] at hn1 hn8 ⊢
  rw [← hnp'] at hnp ⊢
  obtain ⟨lt, hlt⟩ : ∃ lt, lt = g.terms.length := ⟨_, rfl⟩
  have HLT := Lib.hid hlt
  rw [← hlt] at hlt3
  rw [← hlt]
  rw [hst]
  have HV2 := Lib.hid (show PgAt (fun q => w1.heap.size ≤ q) w2 g (.agg #[.int .i64 st, .int .i64 g.rules, .slice An n cn, .slice At_ lt ct, .slice Ap np cp]) by rw [hn, hnp', hlt, ← hst]; exact HV.out)
  have HU2 := Lib.hid (show PgAt (fun q => w1.heap.size ≤ q) w2 g (.agg #[.int .i64 st, .int .i64 g.rules, .slice Bn n dn, .slice Bt lt dt, .slice Bp np dp]) by rw [hn, hnp', hlt, ← hst]; exact HU.out)
  have HP2 := Lib.hid (show PrdsAt (fun q => w1.heap.size ≤ q) w2 g.prods (.slice Ap np cp) by rw [hnp']; exact HP.out)
  obtain ⟨ru, hru⟩ : ∃ ru, ru = g.rules := ⟨_, rfl⟩
  rw [← hru] at HV2 HU2 ⊢
  clear HF hsd hn hnp' hlt hst HV HP HU hru
  obtain ⟨mm, hmm⟩ : ∃ mm, mm = min lq 30 := ⟨_, rfl⟩
  have hmin : min (lq : Int) 30 = (mm : Int) := by omega
  have hmc : mm ≤ cq := by omega
  have hmq : mm ≤ lq := by omega
  have hm30 : mm ≤ 30 := by omega
  have hmc2 : (mm : Int) ≤ (cq : Int) := by omega
  have hmm0 : (0 : Int) ≤ (mm : Int) := by omega
  clear hmm
  go_upto_region 4 with fail
  have HBX := Lib.hid (⟨((Below.refl w2.heap.size w2).alloc (Nat.le_refl _) _).alloc (by simp) _, (heap_alloc_old _ _ (by simp)).trans (heap_alloc_new w2 _), heap_new _ _ _ (by simp)⟩ : Below w2.heap.size w2 ((w2.alloc (.cells #[.int .i64 st, .int .i64 ru, .slice An n cn, .slice At_ lt ct, .slice Ap np cp] 31)).alloc (.cells #[.int .i64 st, .int .i64 ru, .slice Bn n dn, .slice Bt lt dt, .slice Bp np dp] 34)) ∧ ((w2.alloc (.cells #[.int .i64 st, .int .i64 ru, .slice An n cn, .slice At_ lt ct, .slice Ap np cp] 31)).alloc (.cells #[.int .i64 st, .int .i64 ru, .slice Bn n dn, .slice Bt lt dt, .slice Bp np dp] 34)).heap[w2.heap.size]? = some (.cells #[.int .i64 st, .int .i64 ru, .slice An n cn, .slice At_ lt ct, .slice Ap np cp] 31 (0, 0)) ∧ ((w2.alloc (.cells #[.int .i64 st, .int .i64 ru, .slice An n cn, .slice At_ lt ct, .slice Ap np cp] 31)).alloc (.cells #[.int .i64 st, .int .i64 ru, .slice Bn n dn, .slice Bt lt dt, .slice Bp np dp] 34)).heap[w2.heap.size + 1]? = some (.cells #[.int .i64 st, .int .i64 ru, .slice Bn n dn, .slice Bt lt dt, .slice Bp np dp] 34 (0, 0)))
  generalize hV : World.alloc (World.alloc w2 _) _ = V
  rw [hV] at HBX
  clear hV
  have HCP := Lib.hid (fun (w : World) (h : Below V.heap.size V w) => (HV2.out.under (HBX.out.1.trans (h.mono HBX.out.1.size))))
  have HCU := Lib.hid (fun (w : World) (h : Below V.heap.size V w) => (HU2.out.under (HBX.out.1.trans (h.mono HBX.out.1.size))))
  obtain ⟨l2, hl2⟩ : ∃ l2, l2 = l.take mm := ⟨_, rfl⟩
  have hl2l : l2.length = mm := by rw [hl2, List.length_take, ← HLQ.out]; omega
  have hl2i : ∀ ad, Aq = some ad → ∀ (j : Nat) (h : j < l2.length), (V.alloc (.cells #[] 3)).cell? (ad.add j) = some (.int .i64 l2[j]) := fun ad e j hj => by
    subst hl2
    have hj2 : j < l.length := by rw [List.length_take] at hj; omega
    rw [List.getElem_take]
    have h9 := HQI.out ad e j hj2
    have hbl := World.block_lt_of_cell? W _ h9
    exact (((HB2.out.trans (HBX.out.1.mono HB2.out.size)).alloc (HB2.out.trans (HBX.out.1.mono HB2.out.size)).size (.cells #[] 3)).cell hbl).trans h9
  have HO := Lib.hid (own_empty (heap_alloc_new V (.cells #[] 3)) (Nat.le_refl V.heap.size))
  have HL2L := Lib.hid hl2l
  have HL2I := Lib.hid hl2i
  clear hl2 hl2l hl2i
  have hAq : Aq = none → mm = 0 ∧ cq = 0 := fun e => by have := HQN.out e; omega
  have HAQ := Lib.hid hAq
  clear hAq
  cases Aq with
  | none =>
    obtain ⟨hm0, hc0⟩ := HAQ.out rfl
    subst hc0
    have hl0 : lq = 0 := by omega
    subst hl0
    subst hm0
    go_upto_region 5 with (at_builtin; refine wpList_append_in _ rfl _ _ rfl V.heap.size (.slice (some ⟨V.heap.size, 0, none⟩) 0 0) 0 [] rfl HO.out none 0 0 l2 rfl HL2L.out (fun _ => ⟨rfl, rfl⟩) (fun ad e => by cases e) (by rw [HL2L.out]; omega) (by simp) ?_; intro v3 w3 ho3 hg3; have HO3 := Lib.hid ho3; have HG3 := Lib.hid hg3; clear ho3 hg3)
    have hb3 : Below V.heap.size V w3 := Below.grown ((Below.refl _ V).alloc (Nat.le_refl _) (.cells #[] 3)) HG3.out (by simp) (fun j hj => by cases hj; exact Nat.le_refl _)
    have hi3 : IntsAt (fun r => V.heap.size ≤ r) w3 l2 v3 := IntsAt.of_own (e := 3) (base := V.heap.size) (by have := HO3.out; simpa using this)
    obtain ⟨A3, c3, rfl⟩ := hi3.form
    have HB3 := Lib.hid hb3
    have HI3 := Lib.hid hi3
    have hl2m : l2.length ≤ 30 := by rw [HL2L.out]; omega
    obtain ⟨n2, hn2⟩ : ∃ n2, n2 = l2.length := ⟨_, rfl⟩
    rw [← hn2] at hl2m
    obtain ⟨ms, hms⟩ : ∃ ms, ms = msR (replayR g s l2) := ⟨_, rfl⟩
    obtain ⟨cd, hcd⟩ : ∃ cd, cd = cdR (replayR g s l2) := ⟨_, rfl⟩
    have hml : ms.length ≤ 65536 := by rw [hms]; exact ms_len
    have HA := Lib.hid ((replay_any g HMD.out s l2 (by omega) _ _ w3 _ _ (HCP.out w3 hb3) hi3).mono fun e w' h => show ∃ v, e = .returned (.tuple #[v, .int .i64 cd]) ∧ IntsAt (fun r => w3.heap.size ≤ r) w' ms v ∧ Below w3.heap.size w3 w' by
      obtain ⟨v, h1, h2⟩ := both h.1
      exact ⟨v, by rw [hcd]; exact h1, by rw [hms]; exact h2, h.2⟩)
    have HD := Lib.hid (fun (w : World) (h : Below V.heap.size V w) (hi : IntsAt (fun r => V.heap.size ≤ r) w l2 (.slice A3 l2.length c3)) => (rreplay_any g HMD.out s l2 (by omega) _ _ w _ _ (HCU.out w h) hi).mono fun e w' h => show ∃ v, e = .returned (.tuple #[v, .int .i64 cd]) ∧ IntsAt (fun r => w.heap.size ≤ r) w' ms v ∧ Below w.heap.size w w' by
      obtain ⟨v, h1, h2⟩ := both h.1
      exact ⟨v, by rw [hcd]; exact h1, by rw [hms]; exact h2, h.2⟩)
    rw [← hn2] at HA HD HI3 ⊢
    have hxp := (hb3.block _ (Gn.heap_lt HBX.out.2.1)).trans HBX.out.2.1
    have hxu := (hb3.block _ (Gn.heap_lt HBX.out.2.2)).trans HBX.out.2.2
    have HXU := Lib.hid hxu
    have p0 := cell_of_row _ _ 0 _ _ (0, 0) hxp
    have p1 := cell_of_row _ _ 1 _ _ (0, 0) hxp
    have p2 := cell_of_row _ _ 2 _ _ (0, 0) hxp
    have p3 := cell_of_row _ _ 3 _ _ (0, 0) hxp
    have p4 := cell_of_row _ _ 4 _ _ (0, 0) hxp
    clear hb3 hi3 hxp hxu hms hcd hn2
    go_upto_region 6 with (go_at_call 29; refine HA.out.mono ?_; rintro e w4 ⟨v4, rfl, hv4, hb4⟩)
    obtain ⟨A4, c4, rfl⟩ := hv4.form
    have HV4 := Lib.hid hv4
    have HB4 := Lib.hid hb4
    have hxu := (hb4.block _ (Gn.heap_lt HXU.out)).trans HXU.out
    have HBV := Lib.hid (HB3.out.trans (hb4.mono HB3.out.size))
    have HI4 := Lib.hid (HI3.out.under hb4)
    clear hv4 hb4 p0 p1 p2 p3 p4
    have q0 := cell_of_row _ _ 0 _ _ (0, 0) hxu
    have q1 := cell_of_row _ _ 1 _ _ (0, 0) hxu
    have q2 := cell_of_row _ _ 2 _ _ (0, 0) hxu
    have q3 := cell_of_row _ _ 3 _ _ (0, 0) hxu
    have q4 := cell_of_row _ _ 4 _ _ (0, 0) hxu
    clear hxu
    go_upto_region 7 with (go_at_call 30; refine (HD.out w4 HBV.out HI4.out).mono ?_; rintro e w5 ⟨v5, rfl, hv5, hb5⟩)
    obtain ⟨A5, c5, rfl⟩ := hv5.form
    have HV5 := Lib.hid hv5
    have HB5 := Lib.hid hb5
    have HNU := Lib.hid (Tr.numbers_any ms ms (by omega) (by omega) _ _ w5 _ _ (HV4.out.under hb5) hv5)
    rw [decide_eq_true (rfl : ms = ms)] at HNU
    clear hv5 hb5 q0 q1 q2 q3 q4
    go_wp2_with (go_at_call 18; refine HNU.out.mono ?_; rintro e w6 ⟨rfl, hb6⟩)
    refine bodyPost_ret (results_tmp rfl _ _ _) rfl ?_
    exact ⟨rfl, (HB2.out.trans (HBX.out.1.mono HB2.out.size)).trans ((HBV.out.trans ((HB5.out.trans (hb6.mono HB5.out.size)).mono HBV.out.size)).mono (HB2.out.trans (HBX.out.1.mono HB2.out.size)).size)⟩
  | some aq =>
    go_upto_region 5 with (at_builtin; refine wpList_append_in _ rfl _ _ rfl V.heap.size (.slice (some ⟨V.heap.size, 0, none⟩) 0 0) 0 [] rfl HO.out (some aq) mm cq l2 rfl HL2L.out (fun e => by cases e) HL2I.out (by rw [HL2L.out]; omega) (by simp) ?_; intro v3 w3 ho3 hg3; have HO3 := Lib.hid ho3; have HG3 := Lib.hid hg3; clear ho3 hg3)
    have hb3 : Below V.heap.size V w3 := Below.grown ((Below.refl _ V).alloc (Nat.le_refl _) (.cells #[] 3)) HG3.out (by simp) (fun j hj => by cases hj; exact Nat.le_refl _)
    have hi3 : IntsAt (fun r => V.heap.size ≤ r) w3 l2 v3 := IntsAt.of_own (e := 3) (base := V.heap.size) (by have := HO3.out; simpa using this)
    obtain ⟨A3, c3, rfl⟩ := hi3.form
    have HB3 := Lib.hid hb3
    have HI3 := Lib.hid hi3
    have hl2m : l2.length ≤ 30 := by rw [HL2L.out]; omega
    obtain ⟨n2, hn2⟩ : ∃ n2, n2 = l2.length := ⟨_, rfl⟩
    rw [← hn2] at hl2m
    obtain ⟨ms, hms⟩ : ∃ ms, ms = msR (replayR g s l2) := ⟨_, rfl⟩
    obtain ⟨cd, hcd⟩ : ∃ cd, cd = cdR (replayR g s l2) := ⟨_, rfl⟩
    have hml : ms.length ≤ 65536 := by rw [hms]; exact ms_len
    have HA := Lib.hid ((replay_any g HMD.out s l2 (by omega) _ _ w3 _ _ (HCP.out w3 hb3) hi3).mono fun e w' h => show ∃ v, e = .returned (.tuple #[v, .int .i64 cd]) ∧ IntsAt (fun r => w3.heap.size ≤ r) w' ms v ∧ Below w3.heap.size w3 w' by
      obtain ⟨v, h1, h2⟩ := both h.1
      exact ⟨v, by rw [hcd]; exact h1, by rw [hms]; exact h2, h.2⟩)
    have HD := Lib.hid (fun (w : World) (h : Below V.heap.size V w) (hi : IntsAt (fun r => V.heap.size ≤ r) w l2 (.slice A3 l2.length c3)) => (rreplay_any g HMD.out s l2 (by omega) _ _ w _ _ (HCU.out w h) hi).mono fun e w' h => show ∃ v, e = .returned (.tuple #[v, .int .i64 cd]) ∧ IntsAt (fun r => w.heap.size ≤ r) w' ms v ∧ Below w.heap.size w w' by
      obtain ⟨v, h1, h2⟩ := both h.1
      exact ⟨v, by rw [hcd]; exact h1, by rw [hms]; exact h2, h.2⟩)
    rw [← hn2] at HA HD HI3 ⊢
    have hxp := (hb3.block _ (Gn.heap_lt HBX.out.2.1)).trans HBX.out.2.1
    have hxu := (hb3.block _ (Gn.heap_lt HBX.out.2.2)).trans HBX.out.2.2
    have HXU := Lib.hid hxu
    have p0 := cell_of_row _ _ 0 _ _ (0, 0) hxp
    have p1 := cell_of_row _ _ 1 _ _ (0, 0) hxp
    have p2 := cell_of_row _ _ 2 _ _ (0, 0) hxp
    have p3 := cell_of_row _ _ 3 _ _ (0, 0) hxp
    have p4 := cell_of_row _ _ 4 _ _ (0, 0) hxp
    clear hb3 hi3 hxp hxu hms hcd hn2
    go_upto_region 6 with (go_at_call 29; refine HA.out.mono ?_; rintro e w4 ⟨v4, rfl, hv4, hb4⟩)
    obtain ⟨A4, c4, rfl⟩ := hv4.form
    have HV4 := Lib.hid hv4
    have HB4 := Lib.hid hb4
    have hxu := (hb4.block _ (Gn.heap_lt HXU.out)).trans HXU.out
    have HBV := Lib.hid (HB3.out.trans (hb4.mono HB3.out.size))
    have HI4 := Lib.hid (HI3.out.under hb4)
    clear hv4 hb4 p0 p1 p2 p3 p4
    have q0 := cell_of_row _ _ 0 _ _ (0, 0) hxu
    have q1 := cell_of_row _ _ 1 _ _ (0, 0) hxu
    have q2 := cell_of_row _ _ 2 _ _ (0, 0) hxu
    have q3 := cell_of_row _ _ 3 _ _ (0, 0) hxu
    have q4 := cell_of_row _ _ 4 _ _ (0, 0) hxu
    clear hxu
    go_upto_region 7 with (go_at_call 30; refine (HD.out w4 HBV.out HI4.out).mono ?_; rintro e w5 ⟨v5, rfl, hv5, hb5⟩)
    obtain ⟨A5, c5, rfl⟩ := hv5.form
    have HV5 := Lib.hid hv5
    have HB5 := Lib.hid hb5
    have HNU := Lib.hid (Tr.numbers_any ms ms (by omega) (by omega) _ _ w5 _ _ (HV4.out.under hb5) hv5)
    rw [decide_eq_true (rfl : ms = ms)] at HNU
    clear hv5 hb5 q0 q1 q2 q3 q4
    go_wp2_with (go_at_call 18; refine HNU.out.mono ?_; rintro e w6 ⟨rfl, hb6⟩)
    refine bodyPost_ret (results_tmp rfl _ _ _) rfl ?_
    exact ⟨rfl, (HB2.out.trans (HBX.out.1.mono HB2.out.size)).trans ((HBV.out.trans ((HB5.out.trans (hb6.mono HB5.out.size)).mono HBV.out.size)).mono (HB2.out.trans (HBX.out.1.mono HB2.out.size)).size)⟩
end Go.Proofs.Ytjlppffkacimoaa.Fx
