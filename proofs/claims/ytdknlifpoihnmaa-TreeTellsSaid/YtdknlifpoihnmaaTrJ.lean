/-
  Layer 14: the walks of write and Text.
-/
import Derived.Test.YtdknlifpoihnmaaTrI
import Derived.Test.YtdknlifpoihnmaaQtQuote
import Derived.Deep.RegionHeld3
namespace Go.Proofs.Ytdknlifpoihnmaa.Tr
open Go.RowKit
open Gn (Asks)
open Fx (IntsAt StrsAt Prd PG PrdsAt PgAt PgBox soundB sound_any)
set_option maxRecDepth 100000
set_option linter.unusedSimpArgs false
set_option linter.unusedVariables false

def termT (g : PG) (k : Nat) : ByteArray := g.terms.getD k ⟨#[]⟩
def leftT (g : PG) (n : Int) : Int := (g.prods.getD n.toNat ⟨0, []⟩).left
def nameT (g : PG) (n : Int) : ByteArray := g.names.getD (leftT g n).toNat ⟨#[]⟩
def quoT (s : ByteArray) : List UInt8 := Qt.quoteL (Qt.qOf s.data.toList) s.data.toList
mutual
def textT (g : PG) : Tr → List UInt8
  | .mk n l => if n < 0 then quoT (termT g (-1 - n).toNat) else 40 :: ((nameT g n).data.toList ++ (textL g l ++ [41]))
def textL (g : PG) : List Tr → List UInt8
  | [] => []
  | a :: r => 32 :: (textT g a ++ textL g r)
end
theorem textL_snoc (g : PG) (t : Tr) : ∀ l : List Tr, textL g (l ++ [t]) = textL g l ++ (32 :: textT g t)
  | [] => by simp [textL]
  | a :: l => by rw [List.cons_append, textL, textL, textL_snoc g t l]; simp
theorem textL_take (g : PG) (l : List Tr) (i : Nat) (h : i < l.length) : textL g (l.take (i + 1)) = textL g (l.take i) ++ (32 :: textT g l[i]) := by rw [List.take_succ_eq_append_getElem h, textL_snoc]
theorem textL_le (g : PG) (l : List Tr) (i : Nat) : (textL g (l.take i)).length ≤ (textL g l).length := by
  induction l generalizing i with
  | nil => simp [textL]
  | cons a r ih =>
    cases i with
    | zero => simp [textL]
    | succ i => rw [List.take_succ_cons, textL, textL]; have := ih i; simp; omega
theorem fitsL_kid (g : PG) : ∀ (l : List Tr) (ss : List Int), fitsL g l ss = true → ∀ a ∈ l, fitsT g a = true
  | [], _, _ => fun a h => absurd h (by simp)
  | _ :: _, [], h => by rw [fitsL] at h; cases h
  | b :: r, s :: ss, h => fun a ha => by
    rw [fitsL, Bool.and_eq_true, Bool.and_eq_true, Bool.and_eq_true] at h
    rcases List.mem_cons.1 ha with rfl | ha
    · exact h.1.2.2
    · exact fitsL_kid g r ss h.2 a ha
/-- What is wanted of a grammar whose trees are written. -/
structure Wr (g : PG) : Prop where
  fit : Fit g
  names : g.names.length ≤ 1099511627776
  left : ∀ p ∈ g.prods, 0 ≤ p.left ∧ p.left < (g.names.length : Int)
  term : ∀ s ∈ g.terms, s.size ≤ 200000
def WrCtr (g : PG) (t : Tr) : Prop := fitsT g t = true → ∀ (P Q : Nat → Prop) (W : World) (x y v : Value) (B b : Nat) (l : List UInt8), TrAt P W t x y → PgAt Q W g v → BAt B b l W → (∀ r, P r → r < B) → (∀ r, Q r → r < B) → l.length + (textT g t).length ≤ 1099511627776 →
  Calls Try.prog 38 #[.pointer (some ⟨b, 0, none⟩), v, .agg #[x, y]] W fun e w' => e = .returned (.tuple #[]) ∧ BAt B b (l ++ textT g t) w' ∧ BKept B b W w'
theorem turnW_is (k : Nat) (h : k ≤ 1099511627776) : turnW (-1 - (k : Int)) = (k : Int) := by
  unfold turnW wrap64
  omega

set_option maxHeartbeats 16000000 in
theorem write_any (g : PG) (hw : Wr g) {t : Tr} (hs : SmT t) : WrCtr g t := by
  induction hs with
  | mk n kl hlen hl ih =>
  intro hfit P Q W x y v B b l h hg hB hP hQ hbig
  obtain ⟨rfl, hk⟩ := h.open_
  obtain ⟨A, cap, r, a, bb, rfl, hcap, hA, hc⟩ := hk
  obtain ⟨An, At_, Ap, cn, ct, cp, rfl, hN, hT, hPr⟩ := hg.open_
  have hbl := hB.lt
  obtain ⟨m, hm⟩ : ∃ m, m = kl.length := ⟨_, rfl⟩
  rw [← hm] at hA hcap hlen ⊢
  have hb1 := (Below.refl W.heap.size W).alloc (Nat.le_refl _) (.cells #[.int .i64 g.start, .int .i64 g.rules, .slice An g.names.length cn, .slice At_ g.terms.length ct, .slice Ap g.prods.length cp] 31)
  have hb2 := hb1.alloc (by simp) (.cells #[.int .i64 n, .slice A m cap] 39)
  have hx1 := (heap_alloc_old _ (.cells #[.int .i64 n, .slice A m cap] 39) (by simp)).trans (heap_alloc_new W (.cells #[.int .i64 g.start, .int .i64 g.rules, .slice An g.names.length cn, .slice At_ g.terms.length ct, .slice Ap g.prods.length cp] 31))
  have hx2 := heap_alloc_new (W.alloc (.cells #[.int .i64 g.start, .int .i64 g.rules, .slice An g.names.length cn, .slice At_ g.terms.length ct, .slice Ap g.prods.length cp] 31)) (.cells #[.int .i64 n, .slice A m cap] 39)
  rw [Gn.size_alloc'] at hx2
  obtain ⟨V, hV⟩ : ∃ V, V = (W.alloc (.cells #[.int .i64 g.start, .int .i64 g.rules, .slice An g.names.length cn, .slice At_ g.terms.length ct, .slice Ap g.prods.length cp] 31)).alloc (.cells #[.int .i64 n, .slice A m cap] 39) := ⟨_, rfl⟩
  rw [← hV] at hb2 hx1 hx2
  have hVz : V.heap.size = W.heap.size + 2 := by rw [hV]; simp
  have HVZ := Lib.hid hVz
  have HV := Lib.hid hV
  have HMM := Lib.hid hm
  have HA := Lib.hid hA
  have HC := Lib.hid hc
  have HIH := Lib.hid ih
  have HPP := Lib.hid hP
  have HQQ := Lib.hid hQ
  have HB2 := Lib.hid hb2
  have HX1 := Lib.hid hx1
  have HX2 := Lib.hid hx2
  have HBA := Lib.hid (hB.under hb2)
  have HG := Lib.hid (fun w (bw : Below B W w) => (hg.keep (W' := w) (Q := Q) bw.size fun r hr _ => ⟨hr, fun j => bw.cell (p := ⟨r, j, none⟩) (hQ r hr)⟩))
  rw [fitsT, Bool.and_eq_true] at hfit
  have HFT := Lib.hid hfit
  by_cases hn : n < 0
  · obtain ⟨k, rfl⟩ : ∃ k : Nat, n = -1 - (k : Int) := ⟨(-1 - n).toNat, by omega⟩
    have hkt : k < g.terms.length := by
      have h1 := hfit.1
      unfold rootT at h1
      rw [if_pos hn] at h1
      have := of_decide_eq_true h1
      omega
    have htx : textT g (.mk (-1 - (k : Int)) kl) = quoT (termT g k) := by
      rw [textT, if_pos hn, show (-1 - (-1 - (k : Int))).toNat = k by omega]
    obtain ⟨A2, c2, rt, e1, e2, hA2, hc2⟩ := hT
    injection e1 with e11 e12 e13
    clear e12
    subst e11 e13
    obtain ⟨rfl, hrt, hQt⟩ := hA2 (by omega)
    have q0 := hc2 k hkt
    have htm : termT g k = g.terms[k] := by unfold termT; simp [List.getD, List.getElem?_eq_getElem hkt]
    rw [← htm] at q0
    have hts : (termT g k).size ≤ 200000 := by rw [htm]; exact hw.term _ (List.getElem_mem hkt)
    have htw : turnW (-1 - (k : Int)) = (k : Int) := turnW_is k (by have := hw.fit.terms; omega)
    have HTU := Lib.hid (fun w => turned_any (-1 - (k : Int)) w)
    rw [htw] at HTU
    rw [htx] at hbig ⊢
    have HQU := Lib.hid (fun w => Qt.quote_any (termT g k) w hts)
    have hqd : (⟨(quoT (termT g k)).toArray⟩ : ByteArray).data.toList = quoT (termT g k) := by simp
    have hqz : (⟨(quoT (termT g k)).toArray⟩ : ByteArray).size = (quoT (termT g k)).length := by simp [ByteArray.size]
    rw [show (Qt.mk (Qt.quoteL (Qt.qOf (Qt.bs (termT g k))) (Qt.bs (termT g k)))) = (⟨(quoT (termT g k)).toArray⟩ : ByteArray) from rfl] at HQU
    obtain ⟨qs, hqs⟩ : ∃ qs : ByteArray, qs = ⟨(quoT (termT g k)).toArray⟩ := ⟨_, rfl⟩
    rw [← hqs] at HQU hqd hqz
    have HQD := Lib.hid hqd
    obtain ⟨tm, htm2⟩ : ∃ tm, tm = termT g k := ⟨_, rfl⟩
    rw [← htm2] at q0 HQU
    have hln : l.length + qs.size ≤ 140737488355328 := by rw [hqz]; omega
    rw [← hqd]
    have hrB : rt < B := hQ rt hQt
    have HRB := Lib.hid hrB
    have x0 : W.cell? ⟨rt, k, none⟩ = some (.string tm) := q0
    have HS := Lib.hid (fun w (hk2 : BKept B b V w) => (show w.cell? ⟨W.heap.size, 3, none⟩ = some (.slice (some ⟨rt, 0, none⟩) g.terms.length ct) ∧ w.cell? ⟨W.heap.size + 1, 0, none⟩ = some (.int .i64 (-1 - (k : Int))) ∧ w.cell? ⟨rt, k, none⟩ = some (.string tm) from
      ⟨cell_of_row _ _ 3 _ _ (0, 0) (hk2.cells HX1.out (by omega) (by decide)), cell_of_row _ _ 0 _ _ (0, 0) (hk2.cells HX2.out (by omega) (by decide)), (hk2.1.cell (p := ⟨rt, k, none⟩) hrB).trans ((HB2.out.cell (p := ⟨rt, k, none⟩) (by omega)).trans x0)⟩))
    have hkl : (k : Int) < (g.terms.length : Int) := by omega
    have hneg : -1 - (k : Int) < 0 := by omega
    clear hV hVz hqs hqd hqz htx htm htm2 hts htw h hg hB hN hPr hb1 hb2 hx1 hx2 hfit q0 hc2 hA2 hA hc ih hl hlen e2 hm hn
    have HWS := Lib.hid (fun w (h : BAt B b l w) => writeString_any B b l qs w h hln)
    have HK0 := Lib.hid (show BKept B b V V.drew from ⟨Gn.below_drew (Below.refl _ _), (Lib.OthersKept.refl _ _ _).drew⟩)
    have HBD := Lib.hid (HBA.out.under (Gn.below_drew (Below.refl _ _)))
    have HWV := Lib.hid (BKept.of_below (b := b) (show B ≤ W.heap.size by omega) HB2.out)
    have hBV : B ≤ V.heap.size := by have := HVZ.out; omega
    go_enter Try.func38, Try.ntmps38
    go_upto_if 10 with fail
    rw [← HV.out]
    go_wp2_with fail
    refine wp_region_noPanic ?_
    refine wp_region_held_drew (S := (fun w => w.cell? ⟨W.heap.size, 3, none⟩ = some (.slice (some ⟨rt, 0, none⟩) g.terms.length ct) ∧ w.cell? ⟨W.heap.size + 1, 0, none⟩ = some (.int .i64 (-1 - (k : Int))) ∧ w.cell? ⟨rt, k, none⟩ = some (.string tm))) (by kernel_rfl) ?_ (fun hHeld => ?_)
    · exact HS.out _ HK0.out
    refine wpAnyH_take (i := 0) (v := ?_) rfl (by kernel_rfl) (by kernel_rfl) (by kernel_rfl) (fun _ _ _ h => h) (Or.inl ⟨by rfl, ?_⟩) (by assumption) ?_
    rotate_left
    · intro w hSw
      try dsimp only at hSw
      go_simp
      try with_reducible rfl
    try simp only [Act.put, List.setIfInBounds_toArray, List.set_cons_zero, List.set_cons_succ]
    refine wpAnyH_take (i := 1) (v := ?_) rfl (by kernel_rfl) (by kernel_rfl) (by kernel_rfl) (fun _ _ _ h => h) (Or.inl ⟨by rfl, ?_⟩) (by assumption) ?_
    rotate_left
    · intro w hSw
      try dsimp only at hSw
      go_simp
      try with_reducible rfl
    try simp only [Act.put, List.setIfInBounds_toArray, List.set_cons_zero, List.set_cons_succ]
    refine wpAnyH_take (i := 2) (v := ?_) rfl (by kernel_rfl) (by kernel_rfl) (by kernel_rfl) (fun _ _ _ h => h) (Or.inl ⟨by rfl, ?_⟩) (by assumption) ?_
    rotate_left
    · intro w hSw
      try dsimp only at hSw
      go_simp
      try with_reducible rfl
    try simp only [Act.put, List.setIfInBounds_toArray, List.set_cons_zero, List.set_cons_succ]
    refine wpAnyH_take (i := 3) (v := ?_) rfl (by kernel_rfl) (by kernel_rfl) (by kernel_rfl) (fun _ _ _ h => h) (Or.inl ⟨by rfl, ?_⟩) (by assumption) ?_
    rotate_left
    · intro w hSw
      try dsimp only at hSw
      go_simp
      try with_reducible rfl
    try simp only [Act.put, List.setIfInBounds_toArray, List.set_cons_zero, List.set_cons_succ]
    refine wpAnyH_take (i := 4) (v := ?_) rfl (by kernel_rfl) (by kernel_rfl) (by kernel_rfl) (fun _ _ _ h => h) (Or.inl ⟨by rfl, ?_⟩) (by assumption) ?_
    rotate_left
    · intro w hSw
      try dsimp only at hSw
      go_simp
      try with_reducible rfl
    try simp only [Act.put, List.setIfInBounds_toArray, List.set_cons_zero, List.set_cons_succ]
    refine wpAnyH_ready (rs := [5]) (by kernel_rfl) (by simp) ?_
    refine AllReadyH.cons rfl (fun K hK => ?_) AllReadyH.nil
    go_simp
    go_at_call 66
    refine (HTU.out _).mono ?_
    rintro e w3 ⟨rfl, hw3⟩
    subst hw3
    refine hK.out _ _ (HS.out _ HK0.out) (fun hHeld => ?_)
    clear hK K
    try simp only [Act.put, List.setIfInBounds_toArray, List.set_cons_zero, List.set_cons_succ]
    refine wpAnyH_take (i := 6) (v := ?_) rfl (by kernel_rfl) (by kernel_rfl) (by kernel_rfl) (fun _ _ _ h => h) (Or.inl ⟨by rfl, ?_⟩) (by assumption) ?_
    rotate_left
    · intro w hSw
      try dsimp only at hSw
      go_simp
      try with_reducible rfl
    try simp only [Act.put, List.setIfInBounds_toArray, List.set_cons_zero, List.set_cons_succ]
    refine wpAnyH_take (i := 7) (v := ?_) rfl (by kernel_rfl) (by kernel_rfl) (by kernel_rfl) (fun _ _ _ h => h) (Or.inl ⟨by rfl, ?_⟩) (by assumption) ?_
    rotate_left
    · intro w hSw
      try dsimp only at hSw
      go_simp
      try with_reducible rfl
    try simp only [Act.put, List.setIfInBounds_toArray, List.set_cons_zero, List.set_cons_succ]
    refine wpAnyH_ready (rs := [8]) (by kernel_rfl) (by simp) ?_
    refine AllReadyH.cons rfl (fun K hK => ?_) AllReadyH.nil
    go_simp
    go_at_call 65
    refine (HQU.out _).mono ?_
    rintro e w4 ⟨rfl, b4⟩
    have HB4 := Lib.hid (HBD.out.under b4)
    have HK4 := Lib.hid (HK0.out.trans (BKept.of_below (b := b) hBV b4))
    clear b4
    refine hK.out _ _ (HS.out _ HK4.out) (fun hHeld => ?_)
    clear hK K
    try simp only [Act.put, List.setIfInBounds_toArray, List.set_cons_zero, List.set_cons_succ]
    refine wpAnyH_ready (rs := [9]) (by kernel_rfl) (by simp) ?_
    refine AllReadyH.cons rfl (fun K hK => ?_) AllReadyH.nil
    go_simp
    go_at_call 45
    refine (HWS.out _ HB4.out).mono ?_
    rintro e w5 ⟨rfl, hb5, hk5⟩
    have HB5 := Lib.hid hb5
    have HK5 := Lib.hid (HK4.out.trans hk5)
    clear hb5 hk5
    refine hK.out _ _ (HS.out _ HK5.out) (fun hHeld => ?_)
    clear hK K
    try simp only [Act.put, List.setIfInBounds_toArray, List.set_cons_zero, List.set_cons_succ]
    refine wpAnyH_done (by kernel_rfl) ?_ _
    refine NoPanic.normal ?_
    go_wp2
    refine bodyPost_ret (results_none rfl _ _ _) rfl ?_
    exact ⟨rfl, HB5.out, HWV.out.trans HK5.out⟩
  · obtain ⟨k, rfl⟩ : ∃ k : Nat, n = (k : Int) := ⟨n.toNat, by omega⟩
    have hkp : k < g.prods.length := by
      have h1 := hfit.1
      unfold rootT at h1
      rw [if_neg hn] at h1
      split at h1
      · rename_i h2; simpa using h2
      · cases h1
    have hlf := hw.left _ (List.getElem_mem hkp)
    obtain ⟨Ap2, cp2, rp, pf, e1, e2, hAp, hcp⟩ := hPr
    injection e1 with e11 e12 e13
    clear e12
    subst e11 e13
    obtain ⟨rfl, hrp, hQp⟩ := hAp (by omega)
    obtain ⟨p0, _, _⟩ := hcp k hkp
    obtain ⟨q, hq⟩ : ∃ q : Nat, g.prods[k].left = (q : Int) := ⟨g.prods[k].left.toNat, by omega⟩
    have hqn : q < g.names.length := by omega
    obtain ⟨An2, cn2, rn, e1, e2, hAn, hcn⟩ := hN
    injection e1 with e11 e12 e13
    clear e12
    subst e11 e13
    obtain ⟨rfl, hrn, hQn⟩ := hAn (by omega)
    have n0 := hcn q hqn
    have hnm : nameT g (k : Int) = g.names[q] := by
      unfold nameT leftT
      rw [show ((k : Int)).toNat = k from rfl]
      simp [List.getD, List.getElem?_eq_getElem hkp, hq, List.getElem?_eq_getElem hqn]
    rw [← hnm] at n0
    rw [hq] at p0
    have htx : textT g (.mk (k : Int) kl) = 40 :: ((nameT g (k : Int)).data.toList ++ (textL g kl ++ [41])) := by rw [textT, if_neg hn]
    rw [htx] at hbig ⊢
    obtain ⟨nm, hnm2⟩ : ∃ nm, nm = nameT g (k : Int) := ⟨_, rfl⟩
    rw [← hnm2] at n0 hbig ⊢
    have hrpB : rp < B := hQ rp hQp
    have hrnB : rn < B := hQ rn hQn
    have HS := Lib.hid (fun w (hk2 : BKept B b V w) => (show w.cell? ⟨W.heap.size, 2, none⟩ = some (.slice (some ⟨rn, 0, none⟩) g.names.length cn) ∧ w.cell? ⟨W.heap.size, 4, none⟩ = some (.slice (some ⟨rp, 0, none⟩) g.prods.length cp) ∧ w.cell? ⟨W.heap.size + 1, 0, none⟩ = some (.int .i64 (k : Int)) ∧ w.cell? ⟨rp, k * 2, none⟩ = some (.int .i64 (q : Int)) ∧ w.cell? ⟨rn, q, none⟩ = some (.string nm) from
      ⟨cell_of_row _ _ 2 _ _ (0, 0) (hk2.cells HX1.out (by omega) (by decide)), cell_of_row _ _ 4 _ _ (0, 0) (hk2.cells HX1.out (by omega) (by decide)), cell_of_row _ _ 0 _ _ (0, 0) (hk2.cells HX2.out (by omega) (by decide)), (hk2.1.cell (p := ⟨rp, k * 2, none⟩) hrpB).trans ((HB2.out.cell (p := ⟨rp, k * 2, none⟩) (by omega)).trans p0), (hk2.1.cell (p := ⟨rn, q, none⟩) hrnB).trans ((HB2.out.cell (p := ⟨rn, q, none⟩) (by omega)).trans n0)⟩))
    have hkl : (k : Int) < (g.prods.length : Int) := by omega
    have hql : (q : Int) < (g.names.length : Int) := by omega
    have hcat : (⟨#[40]⟩ ++ nm : ByteArray).data.toList = 40 :: nm.data.toList := by simp
    have hcaz : (⟨#[40]⟩ ++ nm : ByteArray).size = nm.data.toList.length + 1 := by
      have : (⟨#[40]⟩ ++ nm : ByteArray).size = (⟨#[40]⟩ ++ nm : ByteArray).data.toList.length := rfl
      rw [this, hcat]; rfl
    have HCAT := Lib.hid hcat
    have hbg2 : l.length + (nm.data.toList.length + ((textL g kl).length + 1) + 1) ≤ 1099511627776 := by simpa using hbig
    have HWS := Lib.hid (fun w (h : BAt B b l w) => writeString_any B b l (⟨#[40]⟩ ++ nm) w h (by rw [hcaz]; omega))
    have HK0 := Lib.hid (show BKept B b V V.drew from ⟨Gn.below_drew (Below.refl _ _), (Lib.OthersKept.refl _ _ _).drew⟩)
    have HBD := Lib.hid (HBA.out.under (Gn.below_drew (Below.refl _ _)))
    have HWV := Lib.hid (BKept.of_below (b := b) (show B ≤ W.heap.size by omega) HB2.out)
    have hBV : B ≤ V.heap.size := by have := HVZ.out; omega
    have HBG := Lib.hid hbg2
    have hcz : ¬ 9223372036854775807 < 1 + nm.size := by
      have : nm.size = nm.data.toList.length := rfl
      omega
    have HKD := Lib.hid (fitsL_kid g kl _ hfit.2)
    have HGV := Lib.hid (fun w (hk2 : BKept B b V w) => hg.keep (W' := w) (Q := Q) (Nat.le_trans HB2.out.size hk2.1.size) fun r hr hrw => ⟨hr, fun j => (hk2.1.cell (p := ⟨r, j, none⟩) (hQ r hr)).trans (HB2.out.cell (p := ⟨r, j, none⟩) hrw)⟩)
    have HTV := Lib.hid (fun (j : Nat) (hj : j < kl.length) w (hk2 : BKept B b V w) => ((hc j hj).2.keep (W' := w) (Q := P) (Nat.le_trans HB2.out.size hk2.1.size) fun r hr hrw => ⟨hr, fun i => (hk2.1.cell (p := ⟨r, i, none⟩) (hP r hr)).trans (HB2.out.cell (p := ⟨r, i, none⟩) hrw)⟩ : TrAt P w kl[j] (a j) (bb j)))
    clear hV hVz htx hnm hnm2 hq h hg hB hT hb1 hb2 hx1 hx2 hfit p0 n0 hcp hcn hAp hAn hA hc ih hl e2 hm hn hbig hcat hcaz hlf hbg2
    go_enter Try.func38, Try.ntmps38
    go_upto_if 10 with fail
    rw [← HV.out]
    go_wp2_with fail
    refine wp_region_noPanic ?_
    refine wp_region_held_drew (S := (fun w => w.cell? ⟨W.heap.size, 2, none⟩ = some (.slice (some ⟨rn, 0, none⟩) g.names.length cn) ∧ w.cell? ⟨W.heap.size, 4, none⟩ = some (.slice (some ⟨rp, 0, none⟩) g.prods.length cp) ∧ w.cell? ⟨W.heap.size + 1, 0, none⟩ = some (.int .i64 (k : Int)) ∧ w.cell? ⟨rp, k * 2, none⟩ = some (.int .i64 (q : Int)) ∧ w.cell? ⟨rn, q, none⟩ = some (.string nm))) (by kernel_rfl) ?_ (fun hHeld => ?_)
    · exact HS.out _ HK0.out
    refine wpAnyH_take (i := 0) (v := ?_) rfl (by kernel_rfl) (by kernel_rfl) (by kernel_rfl) (fun _ _ _ h => h) (Or.inl ⟨by rfl, ?_⟩) (by assumption) ?_
    rotate_left
    · intro w hSw
      try dsimp only at hSw
      go_simp
      try with_reducible rfl
    try simp only [Act.put, List.setIfInBounds_toArray, List.set_cons_zero, List.set_cons_succ]
    refine wpAnyH_take (i := 1) (v := ?_) rfl (by kernel_rfl) (by kernel_rfl) (by kernel_rfl) (fun _ _ _ h => h) (Or.inl ⟨by rfl, ?_⟩) (by assumption) ?_
    rotate_left
    · intro w hSw
      try dsimp only at hSw
      go_simp
      try with_reducible rfl
    try simp only [Act.put, List.setIfInBounds_toArray, List.set_cons_zero, List.set_cons_succ]
    refine wpAnyH_take (i := 2) (v := ?_) rfl (by kernel_rfl) (by kernel_rfl) (by kernel_rfl) (fun _ _ _ h => h) (Or.inl ⟨by rfl, ?_⟩) (by assumption) ?_
    rotate_left
    · intro w hSw
      try dsimp only at hSw
      go_simp
      try with_reducible rfl
    try simp only [Act.put, List.setIfInBounds_toArray, List.set_cons_zero, List.set_cons_succ]
    refine wpAnyH_take (i := 3) (v := ?_) rfl (by kernel_rfl) (by kernel_rfl) (by kernel_rfl) (fun _ _ _ h => h) (Or.inl ⟨by rfl, ?_⟩) (by assumption) ?_
    rotate_left
    · intro w hSw
      try dsimp only at hSw
      go_simp
      try with_reducible rfl
    try simp only [Act.put, List.setIfInBounds_toArray, List.set_cons_zero, List.set_cons_succ]
    refine wpAnyH_take (i := 4) (v := ?_) rfl (by kernel_rfl) (by kernel_rfl) (by kernel_rfl) (fun _ _ _ h => h) (Or.inl ⟨by rfl, ?_⟩) (by assumption) ?_
    rotate_left
    · intro w hSw
      try dsimp only at hSw
      go_simp
      try with_reducible rfl
    try simp only [Act.put, List.setIfInBounds_toArray, List.set_cons_zero, List.set_cons_succ]
    refine wpAnyH_take (i := 5) (v := ?_) rfl (by kernel_rfl) (by kernel_rfl) (by kernel_rfl) (fun _ _ _ h => h) (Or.inl ⟨by rfl, ?_⟩) (by assumption) ?_
    rotate_left
    · intro w hSw
      try dsimp only at hSw
      go_simp
      try with_reducible rfl
    try simp only [Act.put, List.setIfInBounds_toArray, List.set_cons_zero, List.set_cons_succ]
    refine wpAnyH_take (i := 6) (v := ?_) rfl (by kernel_rfl) (by kernel_rfl) (by kernel_rfl) (fun _ _ _ h => h) (Or.inl ⟨by rfl, ?_⟩) (by assumption) ?_
    rotate_left
    · intro w hSw
      try dsimp only at hSw
      go_simp
      try with_reducible rfl
    try simp only [Act.put, List.setIfInBounds_toArray, List.set_cons_zero, List.set_cons_succ]
    refine wpAnyH_take (i := 7) (v := ?_) rfl (by kernel_rfl) (by kernel_rfl) (by kernel_rfl) (fun _ _ _ h => h) (Or.inl ⟨by rfl, ?_⟩) (by assumption) ?_
    rotate_left
    · intro w hSw
      try dsimp only at hSw
      go_simp
      try with_reducible rfl
    try simp only [Act.put, List.setIfInBounds_toArray, List.set_cons_zero, List.set_cons_succ]
    refine wpAnyH_take (i := 8) (v := ?_) rfl (by kernel_rfl) (by kernel_rfl) (by kernel_rfl) (fun _ _ _ h => h) (Or.inl ⟨by rfl, ?_⟩) (by assumption) ?_
    rotate_left
    · intro w hSw
      try dsimp only at hSw
      go_simp
      try with_reducible rfl
    try simp only [Act.put, List.setIfInBounds_toArray, List.set_cons_zero, List.set_cons_succ]
    refine wpAnyH_take (i := 9) (v := ?_) rfl (by kernel_rfl) (by kernel_rfl) (by kernel_rfl) (fun _ _ _ h => h) (Or.inl ⟨by rfl, ?_⟩) (by assumption) ?_
    rotate_left
    · intro w hSw
      try dsimp only at hSw
      go_simp
      try with_reducible rfl
    try simp only [Act.put, List.setIfInBounds_toArray, List.set_cons_zero, List.set_cons_succ]
    refine wpAnyH_take (i := 10) (v := ?_) rfl (by kernel_rfl) (by kernel_rfl) (by kernel_rfl) (fun _ _ _ h => h) (Or.inl ⟨by rfl, ?_⟩) (by assumption) ?_
    rotate_left
    · intro w hSw
      try dsimp only at hSw
      go_simp
      try with_reducible rfl
    try simp only [Act.put, List.setIfInBounds_toArray, List.set_cons_zero, List.set_cons_succ]
    refine wpAnyH_take (i := 11) (v := ?_) rfl (by kernel_rfl) (by kernel_rfl) (by kernel_rfl) (fun _ _ _ h => h) (Or.inl ⟨by rfl, ?_⟩) (by assumption) ?_
    rotate_left
    · intro w hSw
      try dsimp only at hSw
      go_simp
      try with_reducible rfl
    try simp only [Act.put, List.setIfInBounds_toArray, List.set_cons_zero, List.set_cons_succ]
    refine wpAnyH_take (i := 12) (v := ?_) rfl (by kernel_rfl) (by kernel_rfl) (by kernel_rfl) (fun _ _ _ h => h) (Or.inl ⟨by rfl, ?_⟩) (by assumption) ?_
    rotate_left
    · intro w hSw
      try dsimp only at hSw
      go_simp
      try with_reducible rfl
    try simp only [Act.put, List.setIfInBounds_toArray, List.set_cons_zero, List.set_cons_succ]
    refine wpAnyH_ready (rs := [13]) (by kernel_rfl) (by simp) ?_
    refine AllReadyH.cons rfl (fun K hK => ?_) AllReadyH.nil
    go_simp
    go_at_call 45
    refine (HWS.out _ HBD.out).mono ?_
    rintro e w5 ⟨rfl, hb5, hk5⟩
    have HB5 := Lib.hid hb5
    have HK5 := Lib.hid (HK0.out.trans hk5)
    clear hb5 hk5
    refine hK.out _ _ (HS.out _ HK5.out) (fun hHeld => ?_)
    clear hK K
    try simp only [Act.put, List.setIfInBounds_toArray, List.set_cons_zero, List.set_cons_succ]
    refine wpAnyH_done (by kernel_rfl) ?_ _
    refine NoPanic.normal ?_
    have t1 := cell_of_row _ _ 1 _ _ (0, 0) (HK5.out.cells HX2.out (by omega) (by decide))
    have HBL := Lib.hid (show BAt B b (l ++ (40 :: nm.data.toList) ++ textL g (kl.take 0)) w5 by
      have := HB5.out
      rw [HCAT.out] at this
      simpa [textL] using this)
    have HCZ := Lib.hid hcz
    clear hcz
    generalize hcs : (⟨#[40]⟩ ++ nm : ByteArray) = cs
    go_wp2_with fail
    go_loopw [38] (fun i wr => ∃ j : Nat, j ≤ m ∧ i = .int .i64 j ∧ BAt B b (l ++ (40 :: nm.data.toList) ++ textL g (kl.take j)) wr ∧ BKept B b V wr) (fun i _ => m - (intOf i).toNat)
    case atStart => exact ⟨0, Nat.zero_le _, rfl, HBL.out, HK5.out⟩
    case round =>
      obtain ⟨j, hj, rfl, hba, hbk⟩ := hrel
      have HBA2 := Lib.hid hba
      have HBK2 := Lib.hid hbk
      have hle0 := textL_le g kl j
      by_cases hjm : j < m
      · have hjm2 : (j : Int) < (m : Int) := by omega
        have hjl : j < kl.length := by rw [← HMM.out]; exact hjm
        obtain ⟨eA, hr, hPr⟩ := HA.out (by omega)
        subst eA
        have hrB := HPP.out r hPr
        obtain ⟨⟨q0, q1⟩, _⟩ := HC.out j hjl
        have htr := HTV.out j hjl
        obtain ⟨kn, kA, km, kc, f1, f2⟩ := (htr wr hbk).form
        rw [f1] at q0
        rw [f2] at q1
        rw [f1, f2] at htr
        have y0 := (hbk.1.cell (p := ⟨r, j * 2, none⟩) hrB).trans ((HB2.out.cell (p := ⟨r, j * 2, none⟩) hr).trans q0)
        have y1 := (hbk.1.cell (p := ⟨r, j * 2 + 1, none⟩) hrB).trans ((HB2.out.cell (p := ⟨r, j * 2 + 1, none⟩) hr).trans q1)
        have htk := textL_take g kl j hjl
        have hle1 := textL_le g kl (j + 1)
        rw [htk, List.length_append, List.length_cons] at hle1
        have HTK := Lib.hid htk
        obtain ⟨L0, hL0⟩ : ∃ L0, L0 = l ++ (40 :: nm.data.toList) ++ textL g (kl.take j) := ⟨_, rfl⟩
        have hL0l : L0.length + (textT g kl[j]).length + 2 ≤ 1099511627776 := by
          have := HBG.out
          rw [hL0]
          simp only [List.length_append, List.length_cons]
          omega
        rw [← hL0] at HBA2
        have HL0 := Lib.hid hL0
        have hwz := HBK2.out.1.size
        have hVW := HVZ.out
        have hbx := (Below.refl wr.heap.size wr).alloc (Nat.le_refl _) (.cells #[.int .i64 kn, .slice kA km kc] 39)
        have hbn := heap_alloc_new wr (.cells #[.int .i64 kn, .slice kA km kc] 39)
        have HWS2 := Lib.hid (writeString_any B b L0 ⟨#[32]⟩ _ (HBA2.out.under hbx) (by have h1 : (⟨#[32]⟩ : ByteArray).size = 1 := rfl; omega))
        have HBX := Lib.hid (HBK2.out.trans (BKept.of_below (b := b) (show B ≤ wr.heap.size by omega) hbx))
        have HBN := Lib.hid hbn
        have HTR := Lib.hid htr
        have HIHJ := Lib.hid (HIH.out kl[j] (List.getElem_mem hjl) (HKD.out _ (List.getElem_mem hjl)))
        clear hL0 htk htr q0 q1 f1 f2 hba hbk hbx hbn
        go_wp2_with fail
        refine HWS2.out.mono ?_
        rintro e w6 ⟨rfl, hb6, hk6⟩
        have HB6 := Lib.hid hb6
        have HK6 := Lib.hid (HBX.out.trans hk6)
        have g6 := HK6.out.cells HX1.out (by omega) (by decide)
        have g60 := cell_of_row _ _ 0 _ _ (0, 0) g6
        have g61 := cell_of_row _ _ 1 _ _ (0, 0) g6
        have g62 := cell_of_row _ _ 2 _ _ (0, 0) g6
        have g63 := cell_of_row _ _ 3 _ _ (0, 0) g6
        have g64 := cell_of_row _ _ 4 _ _ (0, 0) g6
        have n6 := hk6.cells HBN.out (by omega) (by decide)
        have n60 := cell_of_row _ _ 0 _ _ (0, 0) n6
        have n61 := cell_of_row _ _ 1 _ _ (0, 0) n6
        have HWR := Lib.hid (HIHJ.out P Q w6 _ _ _ B b _ (HTR.out w6 HK6.out) (HGV.out w6 HK6.out) HB6.out HPP.out HQQ.out (by
          have h1 : (⟨#[32]⟩ : ByteArray).data.toList.length = 1 := rfl
          rw [List.length_append, h1]
          omega))
        clear hb6 hk6 g6 n6
        go_wp2_with fail
        refine HWR.out.mono ?_
        rintro e w7 ⟨rfl, hb7, hk7⟩
        have HB7 := Lib.hid (show BAt B b (l ++ (40 :: nm.data.toList) ++ textL g (kl.take (j + 1))) w7 by
          rw [HTK.out, ← List.append_assoc, ← HL0.out]
          rw [List.append_assoc] at hb7
          exact hb7)
        have HK7 := Lib.hid (HK6.out.trans hk7)
        clear hb7 hk7
        go_wp2_with fail
        go_roundw
        case rel => exact ⟨j + 1, by omega, by simp, HB7.out, HK7.out⟩
        case measure => simp [intOf]; omega
      · have hje : m = j := by omega
        subst hje
        have hjm2 : ¬ ((m : Nat) : Int) < ((m : Nat) : Int) := by omega
        have HT := Lib.hid (show kl.take m = kl by rw [HMM.out, List.take_length])
        have HWS3 := Lib.hid (writeString_any B b _ ⟨#[41]⟩ _ hba (by
          rw [HT.out]
          have h1 : (⟨#[41]⟩ : ByteArray).size = 1 := rfl
          have := HBG.out
          simp only [List.length_append, List.length_cons]
          omega))
        clear hba hbk
        go_wp2_with fail
        refine HWS3.out.mono ?_
        rintro e w6 ⟨rfl, hb6, hk6⟩
        have HB6 := Lib.hid (show BAt B b (l ++ (40 :: (nm.data.toList ++ (textL g kl ++ [41])))) w6 by
          rw [HT.out] at hb6
          simpa using hb6)
        have HK6 := Lib.hid (HWV.out.trans (HBK2.out.trans hk6))
        clear hb6 hk6
        go_wp2
        go_end0
        exact ⟨rfl, HB6.out, HK6.out⟩
end Go.Proofs.Ytdknlifpoihnmaa.Tr
