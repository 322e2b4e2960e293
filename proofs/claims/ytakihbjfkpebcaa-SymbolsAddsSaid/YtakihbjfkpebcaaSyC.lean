/-
  Within Check: problems in a row that grows.
  The walk of symbols' Check.
  Table in plain words, and its memory.
  The walk of Table's closure.
  The walk of symbols' Table.
-/
import Derived.Test.YtakihbjfkpebcaaSyB
import Derived.Test.YtakihbjfkpebcaaSyA
import Derived.Deep.AppendLies
import Derived.Deep.RegionLaw
import Derived.WalkArith
import Derived.Laws.OwnMore

namespace Go.Proofs.Ytakihbjfkpebcaa.Sx
open Go.RowKit
set_option maxRecDepth 100000
set_option linter.unusedVariables false

theorem pbinfo : (Try.prog.info? 48).map (fun i => (i.zero, i.size, i.bytes)) = some (some (.agg #[.int .i64 0, .int .i64 0, .string ⟨#[]⟩]), 3, 32) := by kernel_rfl
def prV (p : Prb) : List Value := [.int .i64 p.1, .int .i64 p.2.1, .string (Lx.mk p.2.2)]
def cellsP (ps : List Prb) : List Value := ps.flatMap prV
theorem cellsP_snoc (ps : List Prb) (p : Prb) : cellsP (ps ++ [p]) = cellsP ps ++ prV p := by simp [cellsP]
theorem cellsP_at (ps : List Prb) (i : Nat) (h : i < ps.length) : (cellsP ps)[i * 3]? = some (.int .i64 ps[i].1) ∧ (cellsP ps)[i * 3 + 1]? = some (.int .i64 ps[i].2.1) ∧ (cellsP ps)[i * 3 + 2]? = some (.string (Lx.mk ps[i].2.2)) := by
  induction ps generalizing i with
  | nil => simp at h
  | cons v vs ih =>
    have e : cellsP (v :: vs) = .int .i64 v.1 :: .int .i64 v.2.1 :: .string (Lx.mk v.2.2) :: cellsP vs := by simp [cellsP, prV]
    rw [e]
    cases i with
    | zero => exact ⟨rfl, rfl, rfl⟩
    | succ i =>
      have := ih i (by simpa using h)
      rw [show (i + 1) * 3 = i * 3 + 3 by omega]
      simpa using this
theorem PlAt.under {W W' : World} {M n : Nat} {rs : List Rul} (h : PlAt W M n rs) (b : Below W.heap.size W W') : PlAt W' M n rs := by
  have hl : M < W.heap.size := World.ownsMap.lt h
  obtain ⟨es, ck, hh, hrest⟩ := h
  exact ⟨es, ck, (b.block _ hl).trans hh, hrest⟩
theorem own_under {W W' : World} {base size n : Nat} {e : TypeId} {v : Value} {xs : List Value} (h : W.ownsRow base e size v n xs) (b : Below W.heap.size W W') : W'.ownsRow base e size v n xs := by
  refine ⟨h.1, ?_⟩
  rcases h.2 with h2 | ⟨g, cp, cur, h2, h3, h4, h5⟩
  · exact .inl h2
  · exact .inr ⟨g, cp, cur, h2, h3, (b.block _ (Gn.heap_lt h4)).trans h4, h5⟩

/-- The problems so far, the places, the grammar's box. -/
structure ChkAt (W0 : World) (B M n : Nat) (rs : List Rul) (cs : Array Value) (pv : Value) (ps : List Prb) (W : World) : Prop where
  box : W.heap[W0.heap.size]? = some (.cells cs 25 (0, 0))
  pl : PlAt W M n rs
  row : W.ownsRow B 48 3 pv ps.length (cellsP ps)
  lts : W0.heap.size < B ∧ M < B ∧ B ≤ W.heap.size
  below : Below W0.heap.size W0 W
section
variable {W0 W W' : World} {B M n : Nat} {rs : List Rul} {cs : Array Value} {pv v' : Value} {ps : List Prb}
theorem ChkAt.under (h : ChkAt W0 B M n rs cs pv ps W) (b : Below W.heap.size W W') : ChkAt W0 B M n rs cs pv ps W' := by
  obtain ⟨l1, l2, l3⟩ := h.lts
  have := b.size
  exact ⟨(b.block _ (Gn.heap_lt h.box)).trans h.box, h.pl.under b, own_under h.row b, ⟨l1, l2, by omega⟩, h.below.trans (b.mono (by omega))⟩
theorem ChkAt.snoc (h : ChkAt W0 B M n rs cs pv ps W) (p : Prb) (ho : W'.ownsRow B 48 3 v' (ps.length + 1) (cellsP ps ++ prV p)) (hg : W.grownBy W' pv.ownBlock) : ChkAt W0 B M n rs cs v' (ps ++ [p]) W' := by
  obtain ⟨l1, l2, l3⟩ := h.lts
  have hs := hg.size
  have hob := fun j hj => Gn.own_block h.row j hj
  refine ⟨(hg.block _ (Gn.heap_lt h.box) (fun e => by have := hob _ e.symm; omega)).trans h.box, World.ownsMap.kept h.pl hg (fun e => by have := hob _ e.symm; omega), ?_, ⟨l1, l2, by omega⟩, h.below.grown hg (by omega) (fun j hj => by have := hob j hj; omega)⟩
  rw [List.length_append, cellsP_snoc]
  exact ho
end
/-- No more problems than names and rules. -/
theorem noneP_len (rs : List Rul) (k : Nat) (l : List Nam) : (noneP rs k l).length ≤ l.length := by
  unfold noneP
  rw [List.length_map]
  exact List.length_filter_le _ _
theorem onceP_le (l : List Nam) : (onceP l).length ≤ l.length := by
  have := onceP_len l l.length (Nat.le_refl _)
  rwa [List.take_length] at this
theorem ruleP_len (rs : List Rul) (k : Nat) (r : Rul) (K : Nat) (h : (refs r.2).length ≤ K) : (ruleP rs k r).length ≤ K + 1 := by
  unfold ruleP
  rw [List.length_append]
  have h1 := noneP_len rs k (onceP (refs r.2))
  have h2 := onceP_le (refs r.2)
  split
  · simp; omega
  · simp; omega
theorem rulesGo_len (rs : List Rul) (K : Nat) : ∀ (l : List Rul) (k : Nat), (∀ r ∈ l, (refs r.2).length ≤ K) → (rulesGo rs k l).length ≤ l.length * (K + 1)
  | [], k, _ => by simp [rulesGo]
  | r :: l, k, h => by
    have h1 := ruleP_len rs k r K (h r (by simp))
    have h2 := rulesGo_len rs K l (k + 1) fun x hx => h x (List.mem_cons_of_mem _ hx)
    rw [rulesGo, List.length_append, List.length_cons, Nat.add_mul]
    omega
theorem noneP_take (rs : List Rul) (k : Nat) (l : List Nam) (i : Nat) (h : i < l.length) : noneP rs k (l.take (i + 1)) = if firstP rs l[i] = -1 then noneP rs k (l.take i) ++ [(10, (k : Int), l[i])] else noneP rs k (l.take i) := by
  unfold noneP
  rw [List.take_succ_eq_append_getElem h, List.filter_append, List.map_append]
  by_cases e : firstP rs l[i] = -1
  · rw [if_pos e, List.filter_cons_of_pos (by rw [decide_eq_true e])]
    rfl
  · rw [if_neg e, List.filter_cons_of_neg (by rw [decide_eq_false e]; decide)]
    simp
theorem refsL_mem {s : Nam} : ∀ l : List Tree, s ∈ refsL l → ∃ a ∈ l, s ∈ refs a
  | [], h => by simp [refsL] at h
  | b :: l, h => by
    rw [refsL] at h
    rcases List.mem_append.1 h with h | h
    · exact ⟨b, by simp, h⟩
    · obtain ⟨a, ha, hs⟩ := refsL_mem l h
      exact ⟨a, List.mem_cons_of_mem _ ha, hs⟩
theorem refs_small {t : Tree} (h : SmW t) : ∀ s ∈ refs t, s.length ≤ 1048576 := by
  induction h with
  | mk k tx l ht hl hk ih =>
    intro s hs
    rw [refs] at hs
    split at hs
    · rw [List.mem_singleton.1 hs]; exact ht
    · obtain ⟨a, ha, hs⟩ := refsL_mem l hs
      exact ih a ha s hs
theorem onceGo_mem {s : Nam} : ∀ (l acc : List Nam), s ∈ onceGo acc l → s ∈ acc ∨ s ∈ l
  | [], acc, h => .inl h
  | a :: l, acc, h => by
    rw [onceGo] at h
    split at h
    · rcases onceGo_mem l acc h with h | h
      · exact .inl h
      · exact .inr (List.mem_cons_of_mem _ h)
    · rcases onceGo_mem l _ h with h | h
      · rcases List.mem_append.1 h with h | h
        · exact .inl h
        · rw [List.mem_singleton.1 h]; exact .inr (by simp)
      · exact .inr (List.mem_cons_of_mem _ h)
theorem onceP_mem {s : Nam} {l : List Nam} (h : s ∈ onceP l) : s ∈ l := (onceGo_mem l [] h).resolve_left (by simp)
end Go.Proofs.Ytakihbjfkpebcaa.Sx

namespace Go.Proofs.Ytakihbjfkpebcaa.Sx
open Go.RowKit
set_option maxRecDepth 100000
set_option linter.unusedSimpArgs false
set_option linter.unusedVariables false

set_option maxHeartbeats 16000000 in
theorem check_any (G : Gram) (hn64 : G.rules.length ≤ 65536) (hst : G.start.length ≤ 1048576) (K : Nat) (hK : K ≤ 1048576) (hsm : ∀ r ∈ G.rules, r.1.length ≤ 1048576 ∧ SmW r.2 ∧ (refs r.2).length ≤ K) (P : Nat → Prop) (W : World) (y : Value) (h : RlsAt P W G.rules y) :
    Calls Try.prog 17 #[.agg #[.string (Lx.mk G.start), y]] W fun e w' => ∃ pv, e = .returned pv ∧ w'.ownsRow W.heap.size 48 3 pv (checkP G).length (cellsP (checkP G)) ∧ Below W.heap.size W w' := by
  obtain ⟨i9, hi9, hz0, hz1, hz2⟩ := info_parts pbinfo
  have hq := h.keep (Q := fun r => r < W.heap.size) (Nat.le_refl _) (fun r _ hr => ⟨hr, fun _ => rfl⟩)
  have HQ := Lib.hid hq
  obtain ⟨A, cap, b, a0, a1, a2, rfl, hcap, h3, h4⟩ := hq
  obtain ⟨rs, hrs⟩ : ∃ rs, rs = G.rules := ⟨_, rfl⟩
  rw [← hrs] at hn64 hsm h3 h4 hcap HQ ⊢
  obtain ⟨n, hn⟩ : ∃ n, n = rs.length := ⟨_, rfl⟩
  have hl0 : rs.length ≤ 1099511627776 := by omega
  rw [← hn] at h3 hn64 HQ ⊢
  have hbb : Below W.heap.size W (W.alloc (.cells #[.string (Lx.mk G.start), .slice A n cap] 25)) := (Below.refl _ _).alloc (Nat.le_refl _) _
  have hbx := heap_alloc_new W (.cells #[.string (Lx.mk G.start), .slice A n cap] 25)
  have HKF := Lib.hid (firsts_any rs hl0 (fun r hr => (hsm r hr).1) _ (W.alloc (.cells #[.string (Lx.mk G.start), .slice A n cap] 25)) _ (HQ.out.under hbb))
  have HKO := Lib.hid (fun (s : Nam) (hs : s.length ≤ 1048576) (w : World) (M : Nat) (hp : PlAt w M n rs) => of_any rs s hs w M n hp)
  have HN := Lib.hid hn
  have HRS := Lib.hid hrs
  have HSM := Lib.hid hsm
  have H3 := Lib.hid h3
  have H4 := Lib.hid h4
  have HBX := Lib.hid hbx
  have HBB := Lib.hid hbb
  have HST := Lib.hid hst
  have x1 := cell_of_row _ _ 1 _ _ (0, 0) hbx
  clear hn hrs hsm h3 h4 hbx hbb hst hl0 h
  obtain ⟨ss, hss⟩ : ∃ ss, ss = Lx.mk G.start := ⟨_, rfl⟩
  have HSS := Lib.hid hss
  rw [← hss] at HKF HBX HBB x1 ⊢
  clear hss
  go_enter Try.func17, Try.ntmps17
  go_wp2_with fail
  refine HKF.out.mono ?_
  rintro e w1 ⟨rfl, hpl, b1⟩
  obtain ⟨M, hM⟩ : ∃ M, M = (W.alloc (.cells #[.string ss, .slice A n cap] 25)).heap.size := ⟨_, rfl⟩
  rw [← hM] at hpl ⊢
  have hMl : M < w1.heap.size := World.ownsMap.lt hpl
  have hb1 := HBB.out.trans (b1.mono HBB.out.size)
  have hbx1 := (b1.block _ (Gn.heap_lt HBX.out)).trans HBX.out
  obtain ⟨B, hB⟩ : ∃ B, B = w1.heap.size := ⟨_, rfl⟩
  have HA0 := Lib.hid (show ChkAt W B M n rs #[.string ss, .slice A n cap] (.slice none 0 0) [] w1 from ⟨hbx1, hpl.mono (by rw [← HN.out]; exact Nat.le_refl _), World.ownsRow_nil _ _ _ _, ⟨by have := Gn.heap_lt hbx1; omega, by omega, by omega⟩, hb1⟩)
  have x1 := cell_of_row _ _ 1 _ _ (0, 0) hbx1
  clear hpl hb1 hbx1 hM hMl hB b1 HKF HBX HBB
  go_wp2_with fail
  go_loopw [4, 15] (fun pv i wr => ∃ j : Nat, j ≤ n ∧ i = .int .i64 j ∧ ChkAt W B M n rs #[.string ss, .slice A n cap] pv (rulesGo rs 0 (rs.take j)) wr) (fun _ i _ => n - (intOf i).toNat)
  case atStart => exact ⟨0, Nat.zero_le _, rfl, HA0.out⟩
  case round =>
    obtain ⟨k, hk, rfl, hA⟩ := hrel
    obtain ⟨Ap, cp, hpv⟩ := Gn.slice_of hA.row
    subst hpv
    obtain ⟨ps, hps⟩ : ∃ ps, ps = rulesGo rs 0 (rs.take k) := ⟨_, rfl⟩
    have hpl : ps.length ≤ 68719542272 := by
      rw [hps]
      have h5 := rulesGo_len rs K (rs.take k) 0 (fun r hr => (HSM.out r (List.mem_of_mem_take hr)).2.2)
      have h6 : (rs.take k).length ≤ 65536 := by rw [List.length_take]; omega
      have h7 := Nat.mul_le_mul h6 (show K + 1 ≤ 1048577 by omega)
      omega
    rw [← hps] at hA ⊢
    have HPS := Lib.hid hps
    obtain ⟨np, hnp⟩ : ∃ np, np = ps.length := ⟨_, rfl⟩
    have HNP := Lib.hid hnp
    rw [← hnp] at hpl ⊢
    have HA := Lib.hid (show ChkAt W B M n rs #[.string ss, .slice A n cap] (.slice Ap np cp) ps wr by rw [hnp]; exact hA)
    have z0 := cell_of_row _ _ 0 _ _ (0, 0) hA.box
    clear hps hnp hA
    by_cases hlt : k < n
    · have hlt2 : (k : Int) < (n : Int) := by omega
      have hkl : k < rs.length := by rw [← HN.out]; exact hlt
      obtain ⟨rfl, hbl, _⟩ := H3.out (by omega)
      obtain ⟨⟨q0, q1, q2, q3⟩, hnd⟩ := H4.out k hkl
      obtain ⟨kk, ta, AA, qq, cc, f1, f2, f3⟩ := hnd.form
      rw [f1] at q1
      rw [f2] at q2
      rw [f3] at q3
      rw [f1, f2, f3] at hnd
      obtain ⟨s1, s2, s3⟩ := HSM.out _ (List.getElem_mem hkl)
      have HTK := Lib.hid (show rulesGo rs 0 (rs.take (k + 1)) = ps ++ ruleP rs k rs[k] by
        rw [List.take_succ_eq_append_getElem hkl, rulesGo_snoc, ← HPS.out, List.length_take, Nat.zero_add, Nat.min_eq_left (by omega)])
      obtain ⟨r, hr⟩ : ∃ r, r = rs[k] := ⟨_, rfl⟩
      rw [← hr] at q0 hnd s1 s2 s3 HTK
      have y0 := (HA.out.below.cell (p := ⟨b, k * 4, none⟩) hbl).trans q0
      have y1 := (HA.out.below.cell (p := ⟨b, k * 4 + 1, none⟩) hbl).trans q1
      have y2 := (HA.out.below.cell (p := ⟨b, k * 4 + 2, none⟩) hbl).trans q2
      have y3 := (HA.out.below.cell (p := ⟨b, k * 4 + 3, none⟩) hbl).trans q3
      have HRF := Lib.hid (fun w (bw : Below W.heap.size W w) => Refs_any s2 (fun q => q < W.heap.size) w _ _ _ (hnd.keep bw.size (fun q hq _ => ⟨hq, fun i => bw.cell (p := ⟨q, i, none⟩) hq⟩)) (fun q hq => Nat.lt_of_lt_of_le hq bw.size) (by omega))
      have HSR := Lib.hid (refs_small s2)
      have hs1 := s1
      obtain ⟨nm, hnm⟩ : ∃ nm, nm = Lx.mk r.1 := ⟨_, rfl⟩
      rw [← hnm] at y0
      have HNM := Lib.hid hnm
      have HBX2 := Lib.hid ((Below.refl wr.heap.size wr).alloc (Nat.le_refl _) (.cells #[.string nm, .int .i64 kk, .string ta, .slice AA qq cc] 65))
      have HA1 := Lib.hid (HA.out.under HBX2.out)
      have HK1 := Lib.hid (HKO.out r.1 s1 _ M HA1.out.pl)
      have hwsz : wr.heap.size < (wr.alloc (.cells #[.string nm, .int .i64 kk, .string ta, .slice AA qq cc] 65)).heap.size := by simp
      have hrb := heap_alloc_new wr (.cells #[.string nm, .int .i64 kk, .string ta, .slice AA qq cc] 65)
      rw [← hnm] at HK1
      obtain ⟨bd, hbd⟩ : ∃ bd, bd = refs r.2 := ⟨_, rfl⟩
      rw [← hbd] at HRF HSR s3
      have HRP := Lib.hid (show ruleP rs k r = (if firstP rs r.1 = (k : Int) then [] else [(9, (k : Int), r.1)]) ++ noneP rs k (onceP bd) by rw [hbd]; rfl)
      obtain ⟨fp, hfp⟩ : ∃ fp, fp = firstP rs r.1 := ⟨_, rfl⟩
      rw [← hfp] at HK1 HRP
      clear hr q0 q1 q2 q3 hnd f1 f2 f3 s1 s2 hnm hbd hfp
      by_cases hf : fp = (k : Int)
      · have e1 : ((fp : Int) != (k : Int)) = false := by rw [hf, bne_self_eq_false]
        rw [if_pos hf, List.nil_append] at HRP
        subst hf
        go_wp2_with fail
        generalize hV : World.alloc wr _ = wq
        rw [hV] at HA1 HK1 hwsz hrb
        clear hV
        refine HK1.out.mono ?_
        rintro e w2 ⟨rfl, rfl⟩
        have u0 := cell_of_row _ _ 0 _ _ (0, 0) hrb
        have u1 := cell_of_row _ _ 1 _ _ (0, 0) hrb
        have u2 := cell_of_row _ _ 2 _ _ (0, 0) hrb
        have u3 := cell_of_row _ _ 3 _ _ (0, 0) hrb
        have HAQ := Lib.hid (show ChkAt W B M n rs #[.string ss, .slice (some ⟨b, 0, none⟩) n cap] (.slice Ap np cp) (ps ++ []) wq by rw [List.append_nil]; exact HA1.out)
        have hnq : (ps ++ ([] : List Prb)).length = np := by rw [List.append_nil, HNP.out]
        obtain ⟨p1, hp1⟩ : ∃ p1 : List Prb, p1 = ps ++ [] := ⟨_, rfl⟩
        have HPP := Lib.hid (show rulesGo rs 0 (rs.take (k + 1)) = p1 ++ noneP rs k (onceP bd) by rw [HTK.out, HRP.out, hp1, List.append_nil])
        rw [← hp1] at HAQ hnq
        have hnpl : np ≤ 68719542273 := by omega
        clear HA HA1 HK1 hp1 HTK HRP y0 y1 y2 y3 HNP HPS hpl
        go_wp2_with fail
        refine (HRF.out _ HAQ.out.below).mono ?_
        rintro e w5 ⟨v5, rfl, ho5, b5⟩
        have HA5 := Lib.hid (HAQ.out.under b5)
        have HK6 := Lib.hid (once_any bd (by omega) HSR.out w5 v5 (NmsAt.of_own rfl ho5))
        have hown5 := Gn.own_lt HAQ.out.row
        have hlt5 := b5.size
        clear ho5 b5 u0 u1 u2 u3
        go_wp2_with fail
        refine HK6.out.mono ?_
        rintro e w6 ⟨v6, rfl, ho6, b6⟩
        have HA6 := Lib.hid (HA5.out.under b6)
        have hms6 := NmsAt.of_own rfl ho6
        have hob6 := Gn.own_block ho6
        obtain ⟨A6, c6, b6', rfl, m3, m4⟩ := hms6
        have HOS := Lib.hid (fun s hs => HSR.out s (onceP_mem hs))
        have hol := onceP_le bd
        obtain ⟨ol, hol'⟩ : ∃ ol, ol = onceP bd := ⟨_, rfl⟩
        rw [← hol'] at m3 m4 HPP HOS hol ⊢
        obtain ⟨nl, hnl⟩ : ∃ nl, nl = ol.length := ⟨_, rfl⟩
        rw [← hnl] at m3 hol ⊢
        have HNL := Lib.hid hnl
        have HM3 := Lib.hid m3
        have HM4 := Lib.hid m4
        have HSEP := Lib.hid (show ∀ g, (Value.slice Ap np cp).ownBlock = some g → 0 < nl → g ≠ b6' from fun g hg h0 e => by
          have h1 := hown5 g hg
          have h2 := hob6 b6' (by rw [(m3 h0).1]; rfl)
          omega)
        clear hnl hol' m3 m4 ho6 b6 hown5 hob6 hlt5 HA5 HK6
        go_wp2_with fail
        go_loopw [4, 38] (fun pv i wx => ∃ (j : Nat), j ≤ nl ∧ i = .int .i64 j ∧ ChkAt W B M n rs #[.string ss, .slice (some ⟨b, 0, none⟩) n cap] pv (p1 ++ noneP rs k (ol.take j)) wx ∧ (∀ i (h : i < ol.length), wx.cell? ⟨b6', i, none⟩ = some (strV ol[i])) ∧ (∀ g, pv.ownBlock = some g → 0 < nl → g ≠ b6') ∧ (0 < nl → b6' < wx.heap.size)) (fun _ i _ => nl - (intOf i).toNat)
        case atStart => exact ⟨0, Nat.zero_le _, rfl, by have := HA6.out; rw [List.take_zero, show noneP rs k [] = [] from rfl, List.append_nil]; exact this, HM4.out, HSEP.out, fun h0 => (HM3.out h0).2⟩
        case round =>
          obtain ⟨j, hj, rfl, hA, hcl, hsep, hbl6⟩ := hrel
          obtain ⟨Aq, cq, hpv⟩ := Gn.slice_of hA.row
          subst hpv
          obtain ⟨p2, hp2⟩ : ∃ p2, p2 = p1 ++ noneP rs k (ol.take j) := ⟨_, rfl⟩
          have hp2l : p2.length ≤ 68800000000 := by
            have h5 := noneP_len rs k (ol.take j)
            have h6 : (ol.take j).length ≤ nl := by rw [List.length_take]; omega
            rw [hp2, List.length_append]
            omega
          rw [← hp2] at hA hsep ⊢
          have HP2 := Lib.hid hp2
          obtain ⟨nq, hnq2⟩ : ∃ nq, nq = p2.length := ⟨_, rfl⟩
          have HNQ := Lib.hid hnq2
          rw [← hnq2] at hp2l hsep ⊢
          have HA := Lib.hid (show ChkAt W B M n rs #[.string ss, .slice (some ⟨b, 0, none⟩) n cap] (.slice Aq nq cq) p2 wr by rw [hnq2]; exact hA)
          have HCL := Lib.hid hcl
          have HSEP2 := Lib.hid hsep
          have HBL6 := Lib.hid hbl6
          clear hp2 hnq2 hA hcl hsep hbl6
          by_cases hjn : j < nl
          · have hjn2 : (j : Int) < (nl : Int) := by omega
            have hjl : j < ol.length := by rw [← HNL.out]; exact hjn
            obtain ⟨rfl, hb6l⟩ := HM3.out (by omega)
            have yx := HCL.out j hjl
            have hxs := HOS.out _ (List.getElem_mem hjl)
            have HTN := Lib.hid (noneP_take rs k ol j hjl)
            obtain ⟨x, hx⟩ : ∃ x, x = ol[j] := ⟨_, rfl⟩
            rw [← hx] at yx hxs HTN
            have HKX := Lib.hid (HKO.out x hxs wr M HA.out.pl)
            obtain ⟨xm, hxm⟩ : ∃ xm, xm = Lx.mk x := ⟨_, rfl⟩
            unfold strV at yx
            rw [← hxm] at yx HKX
            have HNM := Lib.hid hxm
            obtain ⟨fx, hfx⟩ : ∃ fx, fx = firstP rs x := ⟨_, rfl⟩
            rw [← hfx] at HKX HTN
            clear hx hxm hfx
            by_cases hf1 : fx = -1
            · have e2 : ((fx : Int) == -1) = true := by rw [hf1]; rfl
              rw [if_pos hf1] at HTN
              have HTP := Lib.hid (show p1 ++ noneP rs k (ol.take (j + 1)) = p2 ++ [(10, (k : Int), x)] by rw [HTN.out, ← List.append_assoc, ← HP2.out])
              subst hf1
              have HOW := Lib.hid (show (wr.alloc (.cells #[.int .i64 10, .int .i64 k, .string xm] 48)).ownsRow B 48 3 (.slice Aq nq cq) nq (cellsP p2) by have := HA.out.row.alloc (.cells #[.int .i64 10, .int .i64 k, .string xm] 48); rwa [← HNQ.out] at this)
              have HNEW := Lib.hid (Gn.row_new wr [.int .i64 10, .int .i64 k, .string xm] 48 wr.heap.size rfl)
              have HAL := Lib.hid (HA.out.under ((Below.refl wr.heap.size wr).alloc (Nat.le_refl _) (.cells #[.int .i64 10, .int .i64 k, .string xm] 48)))
              go_wp2_with fail
              refine HKX.out.mono ?_
              rintro e w7 ⟨rfl, rfl⟩
              go_wp2_with (at_builtin; refine wpList_append_lies _ rfl _ _ 42 rfl B 48 i9 _ 3 32 Try.underlying42 hi9 hz0 hz1 hz2 rfl (by decide) (.slice Aq nq cq) nq (cellsP p2) rfl HOW.out ⟨wr.heap.size, 0, none⟩ 1 1 [.int .i64 10, .int .i64 k, .string xm] rfl rfl HNEW.out (by simp [Value.oneCell']) (by decide) (by unfold maxLen; omega) (by omega) (by have := HAL.out.lts; simp at this ⊢; omega) _ rfl ?_; intro gq cap' w4 hown4 hgrow4 hat4 hlt4; have H4 := Lib.hid (HAL.out.snoc (10, k, x) (v' := .slice (some ⟨gq, 0, none⟩) (nq + 1) cap') (by rw [← HNQ.out]; have h7 := hown4; rw [HNM.out] at h7; exact h7) hgrow4); have HG4 := Lib.hid hgrow4; have HT4 := Lib.hid hat4; clear hown4 hgrow4 hat4 hlt4)
              have hcl4 : ∀ i (h : i < ol.length), w4.cell? ⟨b6', i, none⟩ = some (strV ol[i]) := fun i hi => by
                have h0 : 0 < nl := by omega
                have h8 := HBL6.out h0
                exact (Gn.cell_same ((HG4.out.block b6' (by simp; omega) (fun e => HSEP2.out b6' e.symm h0 rfl)).trans (heap_alloc_old _ _ h8)) i).trans (HCL.out i hi)
              have hsep4 : ∀ g, (Value.slice (some ⟨gq, 0, none⟩) (nq + 1) cap').ownBlock = some g → 0 < nl → g ≠ b6' := fun g hg h0 e => by
                have hg : gq = g := by injection hg
                subst hg
                rcases HT4.out with h7 | h7
                · exact HSEP2.out gq h7 h0 e
                · have := HBL6.out h0
                  simp at h7
                  omega
              have hbl4 : 0 < nl → b6' < w4.heap.size := fun h0 => by have h8 := HG4.out.size; have := HBL6.out h0; simp at h8; omega
              have HC4 := Lib.hid hcl4
              have HS4 := Lib.hid hsep4
              have HL4 := Lib.hid hbl4
              clear hcl4 hsep4 hbl4
              go_roundw
              case rel => exact ⟨j + 1, by omega, by simp, by rw [HTP.out]; exact H4.out, HC4.out, HS4.out, HL4.out⟩
              case measure => simp [intOf]; omega
            · have e2 : ((fx : Int) == -1) = false := by rw [beq_eq_false_iff_ne]; exact hf1
              rw [if_neg hf1] at HTN
              have HTP := Lib.hid (show p1 ++ noneP rs k (ol.take (j + 1)) = p2 by rw [HTN.out, ← HP2.out])
              go_wp2_with fail
              refine HKX.out.mono ?_
              rintro e w7 ⟨rfl, rfl⟩
              go_wp2_with fail
              go_roundw
              case rel => exact ⟨j + 1, by omega, by simp, by rw [HTP.out]; exact HA.out, HCL.out, HSEP2.out, HBL6.out⟩
              case measure => simp [intOf]; omega
          · have hje : nl = j := by omega
            subst hje
            have hjn2 : ¬ ((nl : Nat) : Int) < ((nl : Nat) : Int) := by omega
            have HFIN := Lib.hid (show rulesGo rs 0 (rs.take (k + 1)) = p2 by rw [HPP.out, HP2.out, HNL.out, List.take_length])
            go_wp2_with fail
            go_roundw
            case rel => exact ⟨k + 1, by omega, by simp, by rw [HFIN.out]; exact HA.out⟩
            case measure => simp [intOf]; omega
      · have e1 : ((fp : Int) != (k : Int)) = true := by rw [bne_iff_ne]; exact hf
        rw [if_neg hf] at HRP
        go_wp2_with fail
        generalize hV : World.alloc wr _ = wq
        rw [hV] at HA1 HK1 hwsz hrb
        clear hV
        have HOW := Lib.hid (show (wq.alloc (.cells #[.int .i64 9, .int .i64 k, .string nm] 48)).ownsRow B 48 3 (.slice Ap np cp) np (cellsP ps) by have := HA1.out.row.alloc (.cells #[.int .i64 9, .int .i64 k, .string nm] 48); rwa [← HNP.out] at this)
        have HNEW := Lib.hid (Gn.row_new wq [.int .i64 9, .int .i64 k, .string nm] 48 wq.heap.size rfl)
        have HAL := Lib.hid (HA1.out.under ((Below.refl wq.heap.size wq).alloc (Nat.le_refl _) (.cells #[.int .i64 9, .int .i64 k, .string nm] 48)))
        refine HK1.out.mono ?_
        rintro e w2 ⟨rfl, rfl⟩
        have u0 := cell_of_row _ _ 0 _ _ (0, 0) hrb
        have hownp := Gn.own_lt HA.out.row
        clear y0 y1 y2 y3
        go_wp2_with (at_builtin; refine wpList_append_lies _ rfl _ _ 42 rfl B 48 i9 _ 3 32 Try.underlying42 hi9 hz0 hz1 hz2 rfl (by decide) (.slice Ap np cp) np (cellsP ps) rfl HOW.out ⟨wq.heap.size, 0, none⟩ 1 1 [.int .i64 9, .int .i64 k, .string nm] rfl rfl HNEW.out (by simp [Value.oneCell']) (by decide) (by unfold maxLen; omega) (by omega) (by have := HAL.out.lts; simp at this ⊢; omega) _ rfl ?_; intro gq cap' w4 hown4 hgrow4 hat4 hlt4; have H4 := Lib.hid (HAL.out.snoc (9, k, r.1) (v' := .slice (some ⟨gq, 0, none⟩) (np + 1) cap') (by rw [← HNP.out]; have h7 := hown4; rw [HNM.out] at h7; exact h7) hgrow4); have HG4 := Lib.hid hgrow4; have HT4 := Lib.hid hat4; have hrb4 := (HG4.out.block wr.heap.size (by simp; omega) (fun e => by have := hownp _ e.symm; omega)).trans ((heap_alloc_old wq _ hwsz).trans hrb); have u0 := cell_of_row _ _ 0 _ _ (0, 0) hrb4; have u1 := cell_of_row _ _ 1 _ _ (0, 0) hrb4; have u2 := cell_of_row _ _ 2 _ _ (0, 0) hrb4; have u3 := cell_of_row _ _ 3 _ _ (0, 0) hrb4; clear hrb4; clear hown4 hgrow4 hat4 hlt4)
        obtain ⟨p1, hp1⟩ : ∃ p1 : List Prb, p1 = ps ++ [(9, (k : Int), r.1)] := ⟨_, rfl⟩
        have HPP := Lib.hid (show rulesGo rs 0 (rs.take (k + 1)) = p1 ++ noneP rs k (onceP bd) by rw [HTK.out, HRP.out, hp1, List.append_assoc])
        have hnq : p1.length = np + 1 := by rw [hp1, HNP.out, List.length_append]; rfl
        have HAQ := Lib.hid (show ChkAt W B M n rs #[.string ss, .slice (some ⟨b, 0, none⟩) n cap] (.slice (some ⟨gq, 0, none⟩) (np + 1) cap') p1 w4 by rw [hp1]; exact H4.out)
        have hnpl : np + 1 ≤ 68719542273 := by omega
        clear HA HA1 HK1 hp1 HTK HRP HNP HPS hpl H4 HG4 HT4 HOW HNEW HAL hrb hownp HNM
        go_wp2_with fail
        refine (HRF.out _ HAQ.out.below).mono ?_
        rintro e w5 ⟨v5, rfl, ho5, b5⟩
        have HA5 := Lib.hid (HAQ.out.under b5)
        have HK6 := Lib.hid (once_any bd (by omega) HSR.out w5 v5 (NmsAt.of_own rfl ho5))
        have hown5 := Gn.own_lt HAQ.out.row
        have hlt5 := b5.size
        clear ho5 b5 u0 u1 u2 u3
        go_wp2_with fail
        refine HK6.out.mono ?_
        rintro e w6 ⟨v6, rfl, ho6, b6⟩
        have HA6 := Lib.hid (HA5.out.under b6)
        have hms6 := NmsAt.of_own rfl ho6
        have hob6 := Gn.own_block ho6
        obtain ⟨A6, c6, b6', rfl, m3, m4⟩ := hms6
        have HOS := Lib.hid (fun s hs => HSR.out s (onceP_mem hs))
        have hol := onceP_le bd
        obtain ⟨ol, hol'⟩ : ∃ ol, ol = onceP bd := ⟨_, rfl⟩
        rw [← hol'] at m3 m4 HPP HOS hol ⊢
        obtain ⟨nl, hnl⟩ : ∃ nl, nl = ol.length := ⟨_, rfl⟩
        rw [← hnl] at m3 hol ⊢
        have HNL := Lib.hid hnl
        have HM3 := Lib.hid m3
        have HM4 := Lib.hid m4
        have HSEP := Lib.hid (show ∀ g, (Value.slice (some ⟨gq, 0, none⟩) (np + 1) cap').ownBlock = some g → 0 < nl → g ≠ b6' from fun g hg h0 e => by
          have h1 := hown5 g hg
          have h2 := hob6 b6' (by rw [(m3 h0).1]; rfl)
          omega)
        clear hnl hol' m3 m4 ho6 b6 hown5 hob6 hlt5 HA5 HK6
        go_wp2_with fail
        go_loopw [4, 38] (fun pv i wx => ∃ (j : Nat), j ≤ nl ∧ i = .int .i64 j ∧ ChkAt W B M n rs #[.string ss, .slice (some ⟨b, 0, none⟩) n cap] pv (p1 ++ noneP rs k (ol.take j)) wx ∧ (∀ i (h : i < ol.length), wx.cell? ⟨b6', i, none⟩ = some (strV ol[i])) ∧ (∀ g, pv.ownBlock = some g → 0 < nl → g ≠ b6') ∧ (0 < nl → b6' < wx.heap.size)) (fun _ i _ => nl - (intOf i).toNat)
        case atStart => exact ⟨0, Nat.zero_le _, rfl, by have := HA6.out; rw [List.take_zero, show noneP rs k [] = [] from rfl, List.append_nil]; exact this, HM4.out, HSEP.out, fun h0 => (HM3.out h0).2⟩
        case round =>
          obtain ⟨j, hj, rfl, hA, hcl, hsep, hbl6⟩ := hrel
          obtain ⟨Aq, cq, hpv⟩ := Gn.slice_of hA.row
          subst hpv
          obtain ⟨p2, hp2⟩ : ∃ p2, p2 = p1 ++ noneP rs k (ol.take j) := ⟨_, rfl⟩
          have hp2l : p2.length ≤ 68800000000 := by
            have h5 := noneP_len rs k (ol.take j)
            have h6 : (ol.take j).length ≤ nl := by rw [List.length_take]; omega
            rw [hp2, List.length_append]
            omega
          rw [← hp2] at hA hsep ⊢
          have HP2 := Lib.hid hp2
          obtain ⟨nq, hnq2⟩ : ∃ nq, nq = p2.length := ⟨_, rfl⟩
          have HNQ := Lib.hid hnq2
          rw [← hnq2] at hp2l hsep ⊢
          have HA := Lib.hid (show ChkAt W B M n rs #[.string ss, .slice (some ⟨b, 0, none⟩) n cap] (.slice Aq nq cq) p2 wr by rw [hnq2]; exact hA)
          have HCL := Lib.hid hcl
          have HSEP2 := Lib.hid hsep
          have HBL6 := Lib.hid hbl6
          clear hp2 hnq2 hA hcl hsep hbl6
          by_cases hjn : j < nl
          · have hjn2 : (j : Int) < (nl : Int) := by omega
            have hjl : j < ol.length := by rw [← HNL.out]; exact hjn
            obtain ⟨rfl, hb6l⟩ := HM3.out (by omega)
            have yx := HCL.out j hjl
            have hxs := HOS.out _ (List.getElem_mem hjl)
            have HTN := Lib.hid (noneP_take rs k ol j hjl)
            obtain ⟨x, hx⟩ : ∃ x, x = ol[j] := ⟨_, rfl⟩
            rw [← hx] at yx hxs HTN
            have HKX := Lib.hid (HKO.out x hxs wr M HA.out.pl)
            obtain ⟨xm, hxm⟩ : ∃ xm, xm = Lx.mk x := ⟨_, rfl⟩
            unfold strV at yx
            rw [← hxm] at yx HKX
            have HNM := Lib.hid hxm
            obtain ⟨fx, hfx⟩ : ∃ fx, fx = firstP rs x := ⟨_, rfl⟩
            rw [← hfx] at HKX HTN
            clear hx hxm hfx
            by_cases hf1 : fx = -1
            · have e2 : ((fx : Int) == -1) = true := by rw [hf1]; rfl
              rw [if_pos hf1] at HTN
              have HTP := Lib.hid (show p1 ++ noneP rs k (ol.take (j + 1)) = p2 ++ [(10, (k : Int), x)] by rw [HTN.out, ← List.append_assoc, ← HP2.out])
              subst hf1
              have HOW := Lib.hid (show (wr.alloc (.cells #[.int .i64 10, .int .i64 k, .string xm] 48)).ownsRow B 48 3 (.slice Aq nq cq) nq (cellsP p2) by have := HA.out.row.alloc (.cells #[.int .i64 10, .int .i64 k, .string xm] 48); rwa [← HNQ.out] at this)
              have HNEW := Lib.hid (Gn.row_new wr [.int .i64 10, .int .i64 k, .string xm] 48 wr.heap.size rfl)
              have HAL := Lib.hid (HA.out.under ((Below.refl wr.heap.size wr).alloc (Nat.le_refl _) (.cells #[.int .i64 10, .int .i64 k, .string xm] 48)))
              go_wp2_with fail
              refine HKX.out.mono ?_
              rintro e w7 ⟨rfl, rfl⟩
              go_wp2_with (at_builtin; refine wpList_append_lies _ rfl _ _ 42 rfl B 48 i9 _ 3 32 Try.underlying42 hi9 hz0 hz1 hz2 rfl (by decide) (.slice Aq nq cq) nq (cellsP p2) rfl HOW.out ⟨wr.heap.size, 0, none⟩ 1 1 [.int .i64 10, .int .i64 k, .string xm] rfl rfl HNEW.out (by simp [Value.oneCell']) (by decide) (by unfold maxLen; omega) (by omega) (by have := HAL.out.lts; simp at this ⊢; omega) _ rfl ?_; intro gq cap' w4 hown4 hgrow4 hat4 hlt4; have H4 := Lib.hid (HAL.out.snoc (10, k, x) (v' := .slice (some ⟨gq, 0, none⟩) (nq + 1) cap') (by rw [← HNQ.out]; have h7 := hown4; rw [HNM.out] at h7; exact h7) hgrow4); have HG4 := Lib.hid hgrow4; have HT4 := Lib.hid hat4; clear hown4 hgrow4 hat4 hlt4)
              have hcl4 : ∀ i (h : i < ol.length), w4.cell? ⟨b6', i, none⟩ = some (strV ol[i]) := fun i hi => by
                have h0 : 0 < nl := by omega
                have h8 := HBL6.out h0
                exact (Gn.cell_same ((HG4.out.block b6' (by simp; omega) (fun e => HSEP2.out b6' e.symm h0 rfl)).trans (heap_alloc_old _ _ h8)) i).trans (HCL.out i hi)
              have hsep4 : ∀ g, (Value.slice (some ⟨gq, 0, none⟩) (nq + 1) cap').ownBlock = some g → 0 < nl → g ≠ b6' := fun g hg h0 e => by
                have hg : gq = g := by injection hg
                subst hg
                rcases HT4.out with h7 | h7
                · exact HSEP2.out gq h7 h0 e
                · have := HBL6.out h0
                  simp at h7
                  omega
              have hbl4 : 0 < nl → b6' < w4.heap.size := fun h0 => by have h8 := HG4.out.size; have := HBL6.out h0; simp at h8; omega
              have HC4 := Lib.hid hcl4
              have HS4 := Lib.hid hsep4
              have HL4 := Lib.hid hbl4
              clear hcl4 hsep4 hbl4
              go_roundw
              case rel => exact ⟨j + 1, by omega, by simp, by rw [HTP.out]; exact H4.out, HC4.out, HS4.out, HL4.out⟩
              case measure => simp [intOf]; omega
            · have e2 : ((fx : Int) == -1) = false := by rw [beq_eq_false_iff_ne]; exact hf1
              rw [if_neg hf1] at HTN
              have HTP := Lib.hid (show p1 ++ noneP rs k (ol.take (j + 1)) = p2 by rw [HTN.out, ← HP2.out])
              go_wp2_with fail
              refine HKX.out.mono ?_
              rintro e w7 ⟨rfl, rfl⟩
              go_wp2_with fail
              go_roundw
              case rel => exact ⟨j + 1, by omega, by simp, by rw [HTP.out]; exact HA.out, HCL.out, HSEP2.out, HBL6.out⟩
              case measure => simp [intOf]; omega
          · have hje : nl = j := by omega
            subst hje
            have hjn2 : ¬ ((nl : Nat) : Int) < ((nl : Nat) : Int) := by omega
            have HFIN := Lib.hid (show rulesGo rs 0 (rs.take (k + 1)) = p2 by rw [HPP.out, HP2.out, HNL.out, List.take_length])
            go_wp2_with fail
            go_roundw
            case rel => exact ⟨k + 1, by omega, by simp, by rw [HFIN.out]; exact HA.out⟩
            case measure => simp [intOf]; omega
    · have hke : n = k := by omega
      subst hke
      have hlt2 : ¬ ((n : Nat) : Int) < ((n : Nat) : Int) := by omega
      have HCH := Lib.hid (show checkP G = ps ++ (if firstP rs G.start = -1 then [(19, -1, G.start)] else []) by rw [HPS.out, HN.out, List.take_length, HRS.out]; rfl)
      have HKX := Lib.hid (HKO.out G.start HST.out wr M HA.out.pl)
      rw [← HSS.out] at HKX
      obtain ⟨fs, hfs⟩ : ∃ fs, fs = firstP rs G.start := ⟨_, rfl⟩
      rw [← hfs] at HKX HCH
      have HWB := Lib.hid (show W.heap.size ≤ B by have := HA.out.lts; omega)
      clear hfs
      by_cases hf1 : fs = -1
      · have e2 : ((fs : Int) == -1) = true := by rw [hf1]; rfl
        rw [if_pos hf1] at HCH
        subst hf1
        have HNM := HSS
        have HOW := Lib.hid (show (wr.alloc (.cells #[.int .i64 19, .int .i64 (-1), .string ss] 48)).ownsRow B 48 3 (.slice Ap np cp) np (cellsP ps) by have := HA.out.row.alloc (.cells #[.int .i64 19, .int .i64 (-1), .string ss] 48); rwa [← HNP.out] at this)
        have HNEW := Lib.hid (Gn.row_new wr [.int .i64 19, .int .i64 (-1), .string ss] 48 wr.heap.size rfl)
        have HAL := Lib.hid (HA.out.under ((Below.refl wr.heap.size wr).alloc (Nat.le_refl _) (.cells #[.int .i64 19, .int .i64 (-1), .string ss] 48)))
        go_wp2_with fail
        refine HKX.out.mono ?_
        rintro e w7 ⟨rfl, rfl⟩
        go_wp2_with (at_builtin; refine wpList_append_lies _ rfl _ _ 42 rfl B 48 i9 _ 3 32 Try.underlying42 hi9 hz0 hz1 hz2 rfl (by decide) (.slice Ap np cp) np (cellsP ps) rfl HOW.out ⟨wr.heap.size, 0, none⟩ 1 1 [.int .i64 19, .int .i64 (-1), .string ss] rfl rfl HNEW.out (by simp [Value.oneCell']) (by decide) (by unfold maxLen; omega) (by omega) (by have := HAL.out.lts; simp at this ⊢; omega) _ rfl ?_; intro gq cap' w4 hown4 hgrow4 hat4 hlt4; have H4 := Lib.hid (HAL.out.snoc (19, (-1), G.start) (v' := .slice (some ⟨gq, 0, none⟩) (np + 1) cap') (by rw [← HNP.out]; have h7 := hown4; rw [HNM.out] at h7; exact h7) hgrow4); have HG4 := Lib.hid hgrow4; have HT4 := Lib.hid hat4; clear hown4 hgrow4 hat4 hlt4)
        go_ret
        exact ⟨_, rfl, by rw [HCH.out]; exact own_mono1 H4.out.row HWB.out, H4.out.below⟩
      · have e2 : ((fs : Int) == -1) = false := by rw [beq_eq_false_iff_ne]; exact hf1
        rw [if_neg hf1, List.append_nil] at HCH
        go_wp2_with fail
        refine HKX.out.mono ?_
        rintro e w7 ⟨rfl, rfl⟩
        go_wp2_with fail
        go_ret
        exact ⟨_, rfl, by rw [HCH.out, ← HNP.out]; exact own_mono1 (by have := HA.out.row; rwa [← HNP.out] at this) HWB.out, HA.out.below⟩
end Go.Proofs.Ytakihbjfkpebcaa.Sx

namespace Go.Proofs.Ytakihbjfkpebcaa.Sx
open Go.RowKit
set_option maxRecDepth 100000
set_option linter.unusedSimpArgs false
set_option linter.unusedVariables false

abbrev Sy := Nam × Int × Nat
def nmS (T : List Sy) : List Nam := T.map (·.1)
/-- A name into the table. -/
def addP (rs : List Rul) (T : List Sy) (s : Nam) : List Sy := if s ∈ nmS T then T else T ++ [(s, firstP rs s, 0)]
/-- One more use. -/
def incP (T : List Sy) (s : Nam) : List Sy := T.map fun x => if x.1 = s then (x.1, x.2.1, x.2.2 + 1) else x
def useP (rs : List Rul) (T : List Sy) (s : Nam) : List Sy := incP (addP rs T s) s
def tabA (rs : List Rul) (l : List Rul) : List Sy := l.foldl (fun T r => addP rs T r.1) []
def tabU (rs : List Rul) (T : List Sy) (l : List Nam) : List Sy := l.foldl (useP rs) T
def tabR (rs : List Rul) (T : List Sy) (l : List Rul) : List Sy := l.foldl (fun T r => tabU rs T (refs r.2)) T
def tableP (rs : List Rul) : List Sy := tabR rs (tabA rs rs) rs
theorem nmS_inc (T : List Sy) (s : Nam) : nmS (incP T s) = nmS T := by
  unfold nmS incP
  rw [List.map_map]
  apply List.map_congr_left
  intro x _
  simp only [Function.comp]
  split <;> rfl
theorem nmS_add (rs : List Rul) (T : List Sy) (s : Nam) : nmS (addP rs T s) = if s ∈ nmS T then nmS T else nmS T ++ [s] := by
  unfold addP
  split
  · rfl
  · simp [nmS]
theorem add_mem (rs : List Rul) (T : List Sy) (s : Nam) : s ∈ nmS (addP rs T s) := by
  rw [nmS_add]
  split
  · assumption
  · simp
theorem add_len (rs : List Rul) (T : List Sy) (s : Nam) : (addP rs T s).length ≤ T.length + 1 := by
  unfold addP
  split
  · omega
  · simp
theorem inc_len (T : List Sy) (s : Nam) : (incP T s).length = T.length := by simp [incP]
theorem add_nodup (rs : List Rul) (T : List Sy) (s : Nam) (h : (nmS T).Nodup) : (nmS (addP rs T s)).Nodup := by
  rw [nmS_add]
  split
  · exact h
  · rename_i hs
    rw [List.nodup_append]
    refine ⟨h, by simp, fun a ha b hb => ?_⟩
    rw [List.mem_singleton] at hb
    subst hb
    exact fun e => hs (e ▸ ha)
theorem use_nodup (rs : List Rul) (T : List Sy) (s : Nam) (h : (nmS T).Nodup) : (nmS (useP rs T s)).Nodup := by
  unfold useP
  rw [nmS_inc]
  exact add_nodup rs T s h
theorem use_len (rs : List Rul) (T : List Sy) (s : Nam) : (useP rs T s).length ≤ T.length + 1 := by
  unfold useP
  rw [inc_len]
  exact add_len rs T s
theorem tabA_snoc (rs l : List Rul) (r : Rul) : tabA rs (l ++ [r]) = addP rs (tabA rs l) r.1 := by simp [tabA]
theorem tabU_snoc (rs : List Rul) (T : List Sy) (l : List Nam) (s : Nam) : tabU rs T (l ++ [s]) = useP rs (tabU rs T l) s := by simp [tabU]
theorem tabR_snoc (rs : List Rul) (T : List Sy) (l : List Rul) (r : Rul) : tabR rs T (l ++ [r]) = tabU rs (tabR rs T l) (refs r.2) := by simp [tabR]
/-- Where a name stands in the table. -/
def knGo : List Nam → Nat → DataW Unit → DataW Unit
  | [], _, D => D
  | a :: r, k, D => knGo r (k + 1) (D.put (.string a) (.lit (.int .i64 k)))
def knD (l : List Nam) : DataW Unit := knGo l 0 (.map [])
theorem knGo_snoc (a : Nam) : ∀ (l : List Nam) (k : Nat) (D : DataW Unit), knGo (l ++ [a]) k D = (knGo l k D).put (.string a) (.lit (.int .i64 ((k + l.length : Nat) : Int)))
  | [], k, D => by simp [knGo]
  | b :: l, k, D => by
    rw [List.cons_append, knGo, knGo, knGo_snoc a l]
    congr 4
    simp only [List.length_cons]
    omega
theorem knD_snoc (l : List Nam) (a : Nam) : knD (l ++ [a]) = (knD l).put (.string a) (.lit (.int .i64 (l.length : Int))) := by
  unfold knD
  rw [knGo_snoc]
  congr 4
  omega
theorem knGo_tidy : ∀ (l : List Nam) (k : Nat) (D : DataW Unit), Maps.Tidy D → Maps.Tidy (knGo l k D)
  | [], _, _, h => h
  | a :: l, k, D, h => knGo_tidy l (k + 1) _ (h.put (key_lit a) _)
theorem knGo_has (s : Nam) : ∀ (l : List Nam) (k : Nat) (D : DataW Unit), Maps.Tidy D → Maps.has (knGo l k D) (.string s) = (Maps.has D (.string s) || decide (s ∈ l))
  | [], _, _, _ => by simp [knGo]
  | a :: l, k, D, h => by
    rw [knGo, knGo_has s l (k + 1) _ (h.put (key_lit a) _)]
    by_cases e : s = a
    · subst e
      rw [Maps.has_put_same h.isMap (key_lit s)]
      simp
    · rw [Maps.has_put_other (fun e2 => e (by injection e2))]
      simp [e]
theorem knD_has (s : Nam) (l : List Nam) : Maps.has (knD l) (.string s) = decide (s ∈ l) := by
  rw [knD, knGo_has s l 0 _ Maps.tidy_empty]
  simp [Maps.has]
theorem knGo_no (s : Nam) (z : DataW Unit) : ∀ (l : List Nam) (k : Nat) (D : DataW Unit), s ∉ l → (knGo l k D).atKey (.string s) z = D.atKey (.string s) z
  | [], _, _, _ => rfl
  | a :: l, k, D, h => by
    rw [List.mem_cons, not_or] at h
    rw [knGo, knGo_no s z l (k + 1) _ h.2, Maps.atKey_put_other (fun e => h.1 (by injection e))]
theorem knGo_at (z : DataW Unit) : ∀ (l : List Nam) (k : Nat) (D : DataW Unit) (i : Nat) (h : i < l.length), Maps.Tidy D → l.Nodup → (knGo l k D).atKey (.string l[i]) z = .lit (.int .i64 ((k + i : Nat) : Int))
  | a :: l, k, D, 0, _, ht, hn => by
    rw [List.nodup_cons] at hn
    rw [knGo]
    simp only [List.getElem_cons_zero]
    rw [knGo_no a z l (k + 1) _ hn.1, Maps.atKey_put_same ht.isMap (key_lit a)]
    rfl
  | a :: l, k, D, i + 1, h, ht, hn => by
    rw [List.nodup_cons] at hn
    rw [knGo]
    simp only [List.getElem_cons_succ]
    rw [knGo_at z l (k + 1) _ i (by simpa using h) (ht.put (key_lit a) _) hn.2]
    congr 3
    omega
theorem knD_at (z : DataW Unit) (l : List Nam) (i : Nat) (h : i < l.length) (hn : l.Nodup) : (knD l).atKey (.string l[i]) z = .lit (.int .i64 (i : Int)) := by
  rw [knD, knGo_at z l 0 _ i h Maps.tidy_empty hn, Nat.zero_add]
/-- The table in memory. -/
def syV (x : Sy) : List Value := [.string (Lx.mk x.1), .int .i64 x.2.1, .int .i64 x.2.2]
def cellsS (T : List Sy) : List Value := T.flatMap syV
theorem cellsS_snoc (T : List Sy) (x : Sy) : cellsS (T ++ [x]) = cellsS T ++ syV x := by simp [cellsS]
theorem syinfo : (Try.prog.info? 39).map (fun i => (i.zero, i.size, i.bytes)) = some (some (.agg #[.string ⟨#[]⟩, .int .i64 0, .int .i64 0]), 3, 32) := by kernel_rfl
structure TbAt (W0 : World) (M F : Nat) (rs : List Rul) (cs : Array Value) (T : List Sy) (tv : Value) (W : World) : Prop where
  box : W.heap[W0.heap.size]? = some (.cells cs 25 (0, 0))
  pl : PlAt W M rs.length rs
  first : W.heap[F]? = some (.cells #[.map (some M)] 72 (0, 0))
  known : W.ownsMap Try.prog 9 (plainElem (H := Unit) Try.prog 3) (F + 1) T.length (knD (nmS T))
  kcell : W.heap[F + 2]? = some (.cells #[.map (some (F + 1))] 71 (0, 0))
  tcell : W.heap[F + 3]? = some (.cells #[tv] 32 (0, 0))
  row : W.ownsRow (F + 4) 39 3 tv T.length (cellsS T)
  lts : W0.heap.size < F ∧ M < F ∧ F + 4 ≤ W.heap.size
  nodup : (nmS T).Nodup
  below : Below W0.heap.size W0 W
theorem TbAt.under {W0 W W' : World} {M F : Nat} {rs : List Rul} {cs : Array Value} {T : List Sy} {tv : Value} (h : TbAt W0 M F rs cs T tv W) (b : Below W.heap.size W W') : TbAt W0 M F rs cs T tv W' := by
  obtain ⟨l1, l2, l3⟩ := h.lts
  have hs := b.size
  refine ⟨(b.block _ (Gn.heap_lt h.box)).trans h.box, h.pl.under b, (b.block _ (Gn.heap_lt h.first)).trans h.first, World.ownsMap.kept (row := none) h.known ⟨b.os, b.tape, b.output, b.size, fun q hq _ => b.block q hq⟩ (by simp), (b.block _ (Gn.heap_lt h.kcell)).trans h.kcell, (b.block _ (Gn.heap_lt h.tcell)).trans h.tcell, own_under h.row b, ⟨l1, l2, by omega⟩, h.nodup, h.below.trans (b.mono (by omega))⟩
end Go.Proofs.Ytakihbjfkpebcaa.Sx

namespace Go.Proofs.Ytakihbjfkpebcaa.Sx
open Go.RowKit
set_option maxRecDepth 100000
set_option linter.unusedSimpArgs false
set_option linter.unusedVariables false

/-- A name put in. -/
theorem TbAt.snoc {W0 W w2 w4 : World} {M F : Nat} {rs : List Rul} {cs : Array Value} {T : List Sy} {tv tv' : Value} {o : Obj} {s : Nam} (h : TbAt W0 M F rs cs T tv W) (hs : s ∉ nmS T)
    (h2 : W.grownBy w2 (some (F + 1))) (hm2 : w2.ownsMap Try.prog 9 (plainElem (H := Unit) Try.prog 3) (F + 1) (T.length + 1) ((knD (nmS T)).put (.string s) (.lit (.int .i64 (T.length : Int)))))
    (h4 : (w2.alloc o).grownBy w4 tv.ownBlock) (ho : w4.ownsRow (F + 4) 39 3 tv' (T.length + 1) (cellsS T ++ syV (s, firstP rs s, 0))) :
    TbAt W0 M F rs cs (T ++ [(s, firstP rs s, 0)]) tv' (w4.setCell ⟨F + 3, 0, none⟩ tv') ∧ ∀ q, F + 4 ≤ q → q < W.heap.size → tv.ownBlock ≠ some q → (w4.setCell ⟨F + 3, 0, none⟩ tv').heap[q]? = W.heap[q]? := by
  obtain ⟨l1, l2, l3⟩ := h.lts
  have hob := fun j hj => Gn.own_block h.row j hj
  have z2 := h2.size
  have z4 := h4.size
  simp at z4
  have keep : ∀ q, q < W.heap.size → q ≠ F + 1 → tv.ownBlock ≠ some q → w4.heap[q]? = W.heap[q]? := fun q hq h1 h5 =>
    (h4.block q (by simp; omega) (fun e => h5 e.symm)).trans ((heap_alloc_old _ _ (by omega)).trans (h2.block q hq (fun e => h1 (by injection e))))
  have low : ∀ q, q < F + 4 → tv.ownBlock ≠ some q := fun q hq e => by have := hob q e; omega
  have hset : ∀ q, F + 3 ≠ q → (w4.setCell ⟨F + 3, 0, none⟩ tv').heap[q]? = w4.heap[q]? := fun q hq => Gn.set_keep w4 0 _ hq
  have old : ∀ q, q < F + 4 → q ≠ F + 1 → q ≠ F + 3 → (w4.setCell ⟨F + 3, 0, none⟩ tv').heap[q]? = W.heap[q]? := fun q h1 h5 h6 => (hset q (fun e => h6 e.symm)).trans (keep q (by omega) h5 (low q h1))
  refine ⟨⟨(old _ (by omega) (by omega) (by omega)).trans h.box, ?_, (old _ (by omega) (by omega) (by omega)).trans h.first, ?_, (old _ (by omega) (by omega) (by omega)).trans h.kcell, ?_, ?_, ⟨l1, l2, by simp [World.setCell]; omega⟩, ?_, ?_⟩, fun q h1 h5 h6 => (hset q (by omega)).trans (keep q h5 (by omega) h6)⟩
  · exact ((((h.pl.kept h2 (by simp; omega)).alloc o).kept h4 (fun e => low M (by omega) e.symm))).setCell (by simp; omega) _
  · rw [List.length_append, show nmS (T ++ [(s, firstP rs s, 0)]) = nmS T ++ [s] by simp [nmS], knD_snoc, show (nmS T).length = T.length by simp [nmS]]
    exact (((hm2.alloc o).kept h4 (fun e => low (F + 1) (by omega) e.symm))).setCell (by simp) _
  · have := Gn.heap_set ((keep (F + 3) (by omega) (by omega) (low _ (by omega))).trans h.tcell) 0 tv'
    exact this
  · rw [List.length_append, cellsS_snoc]
    exact ownsRow_setCell_below ho (by simp) _
  · have := add_nodup rs T s h.nodup
    unfold addP at this
    rwa [if_neg hs] at this
  · have hb : Below W0.heap.size W w4 := ⟨h4.os.trans h2.os, h4.tape.trans h2.tape, h4.output.trans h2.output, by omega, fun q hq => keep q (by omega) (by omega) (low q (by omega))⟩
    exact (h.below.trans hb).setCell (by simp; omega) _

set_option maxHeartbeats 4000000 in
theorem add_any (W0 : World) (M F : Nat) (rs : List Rul) (cs : Array Value) (T : List Sy) (tv : Value) (s : Nam) (hsl : s.length ≤ 1048576) (hT : T.length ≤ 1099511627776) (W : World) (h : TbAt W0 M F rs cs T tv W) :
    Calls Try.prog 26 #[.string (Lx.mk s), .pointer (some ⟨F + 2, 0, none⟩), .pointer (some ⟨F + 3, 0, none⟩), .pointer (some ⟨F, 0, none⟩)] W fun e w' => e = .returned (.tuple #[]) ∧ ∃ tv', TbAt W0 M F rs cs (addP rs T s) tv' w' ∧ W.heap.size ≤ w'.heap.size ∧ (tv'.ownBlock = tv.ownBlock ∨ ∃ g, tv'.ownBlock = some g ∧ W.heap.size ≤ g) ∧ ∀ q, F + 4 ≤ q → q < W.heap.size → tv.ownBlock ≠ some q → w'.heap[q]? = W.heap[q]? := by
  obtain ⟨i9, hi9, hz0, hz1, hz2⟩ := info_parts syinfo
  have hkey := Go.WideMaps.keyOf_string_mk (P := Try.prog) Try.underlying9 (s := Lx.mk s) (by show s.length ≤ maxLen; unfold maxLen; omega)
  obtain ⟨A, cp, rfl⟩ := Gn.slice_of h.row
  have H := Lib.hid h
  obtain ⟨N, hN⟩ : ∃ N, N = T.length := ⟨_, rfl⟩
  have hown := h.known
  have k0 := (cell_of_box_n h.kcell).1
  have t0 := (cell_of_box_n h.tcell).1
  have f0 := (cell_of_box_n h.first).1
  have hat := fun z => (⟨z, rfl⟩ : ∃ z' : DataW Unit, z' = z)
  rw [← hN] at hown t0 hT ⊢
  have HN := Lib.hid hN
  by_cases hm : s ∈ nmS T
  · have E1 := Lib.hid (show Maps.has (knD (nmS T)) (.string s) = true by rw [knD_has, decide_eq_true hm])
    have HA := Lib.hid (show addP rs T s = T by unfold addP; rw [if_pos hm])
    clear hm h hN hat
    go_enter Try.func26, Try.ntmps26
    go_wp2_with (at_lookup; refine wpList_lookup_own_ok_int _ rfl _ _ 71 rfl 9 3 .i64 (Maps.string_keyed Try.underlying9) Try.underlying71 Try.underlying3 (zero_int _) (F + 1) N _ rfl hown _ _ rfl hkey ?_; intro c hat hwc; rw [show Maps.has (knD (nmS T)) (.string (Lx.mk s).data.toList) = true from E1.out]; clear hat)
    go_end0
    refine ⟨rfl, _, ?_, Nat.le_refl _, .inl rfl, fun _ _ _ _ => rfl⟩
    rw [HA.out, HN.out]
    exact H.out
  · have E1 := Lib.hid (show Maps.has (knD (nmS T)) (.string s) = false by rw [knD_has, decide_eq_false hm])
    have HA := Lib.hid (show addP rs T s = T ++ [(s, firstP rs s, 0)] by unfold addP; rw [if_neg hm])
    have HM := Lib.hid hm
    have hml : N < maxLen := by unfold maxLen; omega
    obtain ⟨l1, l2, l3⟩ := h.lts
    have HOB := Lib.hid (fun j hj => Gn.own_block h.row j hj)
    have HOL := Lib.hid (fun j hj => Gn.own_lt h.row j hj)
    have HROW := Lib.hid (show W.ownsRow (F + 4) 39 3 (.slice A N cp) N (cellsS T) by rw [hN]; exact h.row)
    have HVAL := Lib.hid (show plainElem (H := Unit) Try.prog 3 (.int .i64 (N : Int)) = some (.lit (.int .i64 (N : Int)), []) from plainElem_int Try.underlying3 (WalkArith.wf_i64 (by omega)))
    clear hm h hN hat
    go_enter Try.func26, Try.ntmps26
    go_wp2_with (first
      | (at_lookup; refine wpList_lookup_own_ok_int _ rfl _ _ 71 rfl 9 3 .i64 (Maps.string_keyed Try.underlying9) Try.underlying71 Try.underlying3 (zero_int _) (F + 1) N _ rfl hown _ _ rfl hkey ?_; intro c hat hwc; rw [show Maps.has (knD (nmS T)) (.string (Lx.mk s).data.toList) = false from E1.out]; clear hat)
      | (at_mapUpdate; refine wpList_mapUpdate_in _ rfl _ _ _ 71 rfl 9 3 (Maps.string_keyed Try.underlying9) Try.underlying71 (plainElem (H := Unit) Try.prog 3) (F + 1) N _ rfl hown hml _ (.int .i64 (N : Int)) (.string s) rfl rfl hkey (.lit (.int .i64 (N : Int))) [] HVAL.out ?_; intro w2 hown2 hturn2; have HM2 := Lib.hid hown2; have HT2 := Lib.hid hturn2.grown; clear hown2 hturn2))
    obtain ⟨nm, hnm⟩ : ∃ nm, nm = Lx.mk s := ⟨_, rfl⟩
    have HNM := Lib.hid hnm
    have KEEP := Lib.hid (show ∀ q, q < F + 4 → q ≠ F + 1 → w2.heap[q]? = W.heap[q]? from fun q hq h1 => HT2.out.block q (by omega) (fun e => h1 (by injection e)))
    have t2 := (cell_of_box_n ((KEEP.out (F + 3) (by omega) (by omega)).trans (by have := H.out.tcell; rwa [← HN.out] at this))).1
    have tf := (cell_of_box_n ((KEEP.out (F + 3) (by omega) (by omega)).trans (by have := H.out.tcell; rwa [← HN.out] at this))).2
    have f2 := (cell_of_box_n ((KEEP.out F (by omega) (by omega)).trans H.out.first)).1
    have hp2 : PlAt w2 M rs.length rs := World.ownsMap.kept H.out.pl HT2.out (fun e => by injection e; omega)
    have HK := Lib.hid (of_any rs s hsl w2.drew M _ (hp2.under (Below.refl _ _).drew))
    clear hp2
    have z2 := HT2.out.size
    have HR2 := Lib.hid (show w2.ownsRow (F + 4) 39 3 (.slice A N cp) N (cellsS T) from HROW.out.kept HT2.out (by
      rcases h7 : (Value.slice A N cp).ownBlock with _ | g
      · exact .inl rfl
      · exact .inr (fun e => by have := HOB.out g (by rw [← HN.out]; exact h7); injection e with e; omega)))
    have TC2 := Lib.hid ((KEEP.out (F + 3) (by omega) (by omega)).trans (show W.heap[F + 3]? = some (.cells #[.slice A N cp] 32 (0, 0)) by have := H.out.tcell; rwa [← HN.out] at this))
    obtain ⟨R, hR⟩ : ∃ R, R = firstP rs s := ⟨_, rfl⟩
    have HRR := Lib.hid hR
    rw [← hR] at HK
    rw [← hnm] at HK ⊢
    clear hnm k0 t0 f0 hR
    go_region_law (first
      | (refine step_append_lies _ rfl (.tmp 19) (.tmp 25) 32 rfl (F + 4) 39 i9 _ 3 32 Try.underlying32 hi9 hz0 hz1 hz2 rfl (by decide) (.slice A N cp) N (cellsS T) (by simp [Act.eval]) (HR3.out.alloc _) ⟨w3.heap.size, 0, none⟩ 1 1 [.string nm, .int .i64 R, .int .i64 0] (by simp [Act.eval]) rfl (Gn.row_new _ [.string nm, .int .i64 R, .int .i64 0] _ _ rfl) (by simp [Value.oneCell']) (by decide) (by unfold maxLen; omega) (by omega) (by simp; omega) _ rfl ?_; intro gq cap' w4 hown4 hgrow4 hat4 hlt4; have HO4 := Lib.hid hown4; have HG4 := Lib.hid hgrow4; have HA4 := Lib.hid hat4; have b4 := (hgrow4.block (F + 3) (by simp; omega) (fun e => by have := HOB.out (F + 3) (by rw [← HN.out]; exact e.symm); omega)).trans ((heap_alloc_old _ _ (by omega)).trans TC3.out); obtain ⟨t4, tf4⟩ := cell_of_box_n b4; clear hown4 hgrow4 hat4 b4)
      | (go_simp; go_at_call 27; refine HK.out.mono ?_; rintro e w3 ⟨rfl, hw⟩; have HG3 := Lib.hid (show W.grownBy w3 (some (F + 1)) from hw ▸ ⟨HT2.out.os, HT2.out.tape, HT2.out.output, HT2.out.size, HT2.out.block⟩); have HM3 := Lib.hid (show w3.ownsMap Try.prog 9 (plainElem (H := Unit) Try.prog 3) (F + 1) (N + 1) ((knD (nmS T)).put (.string s) (.lit (.int .i64 (N : Int)))) from hw ▸ (HM2.out : w2.drew.ownsMap Try.prog 9 (plainElem (H := Unit) Try.prog 3) (F + 1) (N + 1) _)); have HR3 := Lib.hid (show w3.ownsRow (F + 4) 39 3 (.slice A N cp) N (cellsS T) from hw ▸ HR2.out.drew); have TC3 := Lib.hid (show w3.heap[F + 3]? = some (.cells #[.slice A N cp] 32 (0, 0)) from hw ▸ TC2.out); have t3 := (cell_of_box_n TC3.out).1; have t3a := (fun o : Obj => cell_alloc_n o t3); have z3 := HG3.out.size; clear hw))
    all_goals
      have z4 := HG4.out.size
      simp at z4
      have hs := H.out.snoc (tv' := .slice (some ⟨gq, 0, none⟩) (N + 1) cap') HM.out HG3.out (by rw [← HN.out]; exact HM3.out) (by rw [← HN.out]; exact HG4.out) (by rw [← HN.out]; have := HO4.out; rw [HNM.out, HRR.out] at this; exact this)
      have HS := Lib.hid hs
      clear hs
      go_end0
      refine ⟨rfl, _, by rw [HA.out]; exact HS.out.1, by simp [World.setCell]; omega, ?_, fun q h1 h5 h6 => HS.out.2 q h1 h5 (by rw [← HN.out]; exact h6)⟩
      rcases HA4.out with h7 | h7
      · exact .inl h7.symm
      · exact .inr ⟨gq, rfl, by simp at h7; omega⟩
end Go.Proofs.Ytakihbjfkpebcaa.Sx

namespace Go.Proofs.Ytakihbjfkpebcaa.Sx
open Go.RowKit
set_option maxRecDepth 100000
set_option linter.unusedSimpArgs false
set_option linter.unusedVariables false
theorem tabA_len (rs : List Rul) : ∀ l : List Rul, (tabA rs l).length ≤ l.length := by
  have key : ∀ (l : List Rul) (T : List Sy), (l.foldl (fun T r => addP rs T r.1) T).length ≤ T.length + l.length := by
    intro l
    induction l with
    | nil => intro T; simp
    | cons r l ih =>
      intro T
      have h1 := ih (addP rs T r.1)
      have h2 := add_len rs T r.1
      rw [List.foldl_cons, List.length_cons]
      omega
  intro l
  have := key l []
  simpa [tabA] using this
theorem tabU_len (rs : List Rul) : ∀ (T : List Sy) (l : List Nam), (tabU rs T l).length ≤ T.length + l.length := by
  intro T l
  induction l generalizing T with
  | nil => simp [tabU]
  | cons s l ih =>
    have h1 := ih (useP rs T s)
    have h2 := use_len rs T s
    rw [tabU, List.foldl_cons, List.length_cons]
    unfold tabU at h1
    omega
theorem tabR_len (rs : List Rul) (K : Nat) : ∀ (T : List Sy) (l : List Rul), (∀ r ∈ l, (refs r.2).length ≤ K) → (tabR rs T l).length ≤ T.length + l.length * K := by
  intro T l
  induction l generalizing T with
  | nil => intro _; simp [tabR]
  | cons r l ih =>
    intro h
    have h1 := ih (tabU rs T (refs r.2)) (fun q hq => h q (by simp [hq]))
    have h2 := tabU_len rs T (refs r.2)
    have h3 := h r (by simp)
    rw [tabR, List.foldl_cons, List.length_cons, Nat.succ_mul]
    unfold tabR at h1
    omega
/-- No name is used oftener than so. -/
def Mx (B : Nat) (T : List Sy) : Prop := ∀ x ∈ T, x.2.2 ≤ B
theorem add_mx {B : Nat} (rs : List Rul) (T : List Sy) (s : Nam) (h : Mx B T) : Mx B (addP rs T s) := by
  unfold addP
  split
  · exact h
  · intro x hx
    rcases List.mem_append.mp hx with hx | hx
    · exact h x hx
    · rw [List.mem_singleton] at hx
      subst hx
      exact Nat.zero_le _
theorem inc_mx {B : Nat} (T : List Sy) (s : Nam) (h : Mx B T) : Mx (B + 1) (incP T s) := by
  intro x hx
  obtain ⟨y, hy, rfl⟩ := List.mem_map.mp hx
  have := h y hy
  split
  · show y.2.2 + 1 ≤ B + 1
    omega
  · omega
theorem tabU_mx (rs : List Rul) : ∀ (l : List Nam) (B : Nat) (T : List Sy), Mx B T → Mx (B + l.length) (tabU rs T l)
  | [], B, T, h => h
  | s :: l, B, T, h => by
    have := tabU_mx rs l (B + 1) (useP rs T s) (inc_mx _ _ (add_mx rs T s h))
    intro x hx
    have h2 := this x hx
    rw [List.length_cons]
    omega
theorem tabR_mx (rs : List Rul) (K : Nat) : ∀ (l : List Rul) (B : Nat) (T : List Sy), (∀ r ∈ l, (refs r.2).length ≤ K) → Mx B T → Mx (B + l.length * K) (tabR rs T l)
  | [], B, T, _, h => fun x hx => by have := h x hx; omega
  | r :: l, B, T, hk, h => by
    have h1 := hk r (by simp)
    have := tabR_mx rs K l (B + (refs r.2).length) (tabU rs T (refs r.2)) (fun q hq => hk q (by simp [hq])) (tabU_mx rs _ B T h)
    intro x hx
    have h2 := this x hx
    rw [List.length_cons, Nat.succ_mul]
    omega
theorem tabA_mx (rs : List Rul) (l : List Rul) : Mx 0 (tabA rs l) := by
  have key : ∀ (l : List Rul) (T : List Sy), Mx 0 T → Mx 0 (l.foldl (fun T r => addP rs T r.1) T) := by
    intro l
    induction l with
    | nil => exact fun T h => h
    | cons r l ih => exact fun T h => ih _ (add_mx rs T r.1 h)
  exact key l [] (fun x hx => absurd hx (by simp))
theorem syV_len (x : Sy) : (syV x).length = 3 := rfl
theorem cellsS_at : ∀ (T : List Sy) (i : Nat) (h : i < T.length), (cellsS T)[i * 3 + 2]? = some (.int .i64 ((T[i]).2.2 : Int))
  | a :: r, 0, _ => rfl
  | a :: r, i + 1, h => by
    have := cellsS_at r i (by simpa using h)
    rw [show cellsS (a :: r) = syV a ++ cellsS r from rfl, List.getElem?_append_right (by rw [syV_len]; omega), syV_len, show (i + 1) * 3 + 2 - 3 = i * 3 + 2 by omega, this]
    rfl
theorem inc_no (s : Nam) : ∀ T : List Sy, s ∉ nmS T → incP T s = T
  | [], _ => rfl
  | a :: r, h => by
    rw [show nmS (a :: r) = a.1 :: nmS r from rfl, List.mem_cons, not_or] at h
    rw [show incP (a :: r) s = (if a.1 = s then (a.1, a.2.1, a.2.2 + 1) else a) :: incP r s from rfl, if_neg (fun e => h.1 e.symm), inc_no s r h.2]
theorem inc_cells (s : Nam) : ∀ (T : List Sy) (i : Nat) (h : i < T.length), (T[i]).1 = s → (nmS T).Nodup → cellsS (incP T s) = (cellsS T).set (i * 3 + 2) (.int .i64 (((T[i]).2.2 : Int) + 1))
  | a :: r, 0, _, e, hn => by
    have e : a.1 = s := e
    rw [show nmS (a :: r) = a.1 :: nmS r from rfl, List.nodup_cons] at hn
    rw [show incP (a :: r) s = (if a.1 = s then (a.1, a.2.1, a.2.2 + 1) else a) :: incP r s from rfl, if_pos e, inc_no s r (e ▸ hn.1)]
    simp [cellsS, syV]
  | a :: r, i + 1, h, e, hn => by
    have e : (r[i]'(by simpa using h)).1 = s := e
    rw [show nmS (a :: r) = a.1 :: nmS r from rfl, List.nodup_cons] at hn
    have ha : ¬ a.1 = s := fun e2 => hn.1 (by rw [e2, ← e]; exact List.mem_map.mpr ⟨_, List.getElem_mem _, rfl⟩)
    have ih := inc_cells s r i (by simpa using h) e hn.2
    rw [show incP (a :: r) s = (if a.1 = s then (a.1, a.2.1, a.2.2 + 1) else a) :: incP r s from rfl, if_neg ha, show cellsS (a :: incP r s) = syV a ++ cellsS (incP r s) from rfl, ih, show cellsS (a :: r) = syV a ++ cellsS r from rfl, List.set_append_right _ _ (by rw [syV_len]; omega), syV_len, show (i + 1) * 3 + 2 - 3 = i * 3 + 2 by omega]
    rfl
theorem row_some {W : World} {base : Nat} {e : TypeId} {size n : Nat} {v : Value} {xs : List Value} (h : W.ownsRow base e size v n xs) (hn : 0 < n) : ∃ g c, v = .slice (some ⟨g, 0, none⟩) n c := by
  rcases h.2 with ⟨_, h0⟩ | ⟨g, c, cur, rfl, _⟩
  · omega
  · exact ⟨g, c, rfl⟩
/-- One more use, in memory. -/
theorem TbAt.use {W0 W : World} {M F : Nat} {rs : List Rul} {cs : Array Value} {T : List Sy} {g c : Nat} (h : TbAt W0 M F rs cs T (.slice (some ⟨g, 0, none⟩) T.length c) W) (s : Nam) (i : Nat) (hi : i < T.length) (hs : (T[i]).1 = s) :
    TbAt W0 M F rs cs (incP T s) (.slice (some ⟨g, 0, none⟩) T.length c) (W.setCell ⟨g, i * 3 + 2, none⟩ (.int .i64 (((T[i]).2.2 : Int) + 1))) := by
  obtain ⟨l1, l2, l3⟩ := h.lts
  have hob : F + 4 ≤ g := Gn.own_block h.row g rfl
  obtain ⟨k1, k2⟩ := World.ownsRow.stored h.row (i * 3 + 2) (.int .i64 (((T[i]).2.2 : Int) + 1))
  have hset : ∀ q, q < F + 4 → (W.setCell ⟨g, i * 3 + 2, none⟩ (.int .i64 (((T[i]).2.2 : Int) + 1))).heap[q]? = W.heap[q]? := fun q hq => Gn.set_keep W _ _ (by omega)
  refine ⟨(hset _ (by omega)).trans h.box, World.ownsMap.kept h.pl k2 (fun e => by injection e; omega), (hset _ (by omega)).trans h.first, ?_, (hset _ (by omega)).trans h.kcell, (hset _ (by omega)).trans h.tcell, ?_, ⟨l1, l2, by simp [World.setCell]; omega⟩, by rw [nmS_inc]; exact h.nodup, h.below.setCell (by simp; omega) _⟩
  · rw [nmS_inc, inc_len]
    exact World.ownsMap.kept h.known k2 (fun e => by injection e; omega)
  · rw [inc_len, inc_cells s T i hi hs h.nodup]
    exact k1
theorem start_tb (W w1 : World) (rs : List Rul) (cs : Array Value) (hpl : PlAt w1 (W.heap.size + 1) rs.length rs) (hbx : w1.heap[W.heap.size]? = some (.cells cs 25 (0, 0))) (hb : Below W.heap.size W w1) :
    TbAt W (W.heap.size + 1) w1.heap.size rs cs [] (.slice none 0 0) ((((w1.alloc (.cells #[.map (some (W.heap.size + 1))] 72)).alloc (.map #[] 0)).alloc (.cells #[.map (some (w1.heap.size + 1))] 71)).alloc (.cells #[.slice none 0 0] 32)) := by
  have hM : W.heap.size + 1 < w1.heap.size := World.ownsMap.lt hpl
  have z0 := Gn.heap_lt hbx
  obtain ⟨wa, hwa⟩ : ∃ wa, wa = w1.alloc (.cells #[.map (some (W.heap.size + 1))] 72) := ⟨_, rfl⟩
  have za : wa.heap.size = w1.heap.size + 1 := by rw [hwa]; simp
  have b1 : Below w1.heap.size w1 wa := by rw [hwa]; exact (Below.refl _ _).alloc (Nat.le_refl _) _
  have na : wa.heap[w1.heap.size]? = some (.cells #[.map (some (W.heap.size + 1))] 72 (0, 0)) := by rw [hwa]; exact heap_alloc_new _ _
  rw [← hwa]
  have hmd := World.ownsMap_made wa Try.prog 9 (plainElem (H := Unit) Try.prog 3)
  rw [za] at hmd
  have b2 : Below wa.heap.size wa (((wa.alloc (.map #[] 0)).alloc (.cells #[.map (some (w1.heap.size + 1))] 71)).alloc (.cells #[.slice none 0 0] 32)) := (((Below.refl _ _).alloc (Nat.le_refl _) _).alloc (by simp) _).alloc (by simp; omega) _
  have b3 := b1.trans (b2.mono b1.size)
  have nk := heap_alloc_new (wa.alloc (.map #[] 0)) (.cells #[.map (some (w1.heap.size + 1))] 71)
  have nt := heap_alloc_new ((wa.alloc (.map #[] 0)).alloc (.cells #[.map (some (w1.heap.size + 1))] 71)) (.cells #[.slice none 0 0] 32)
  rw [heap_size_alloc', za] at nk
  rw [heap_size_alloc', heap_size_alloc', za] at nt
  refine ⟨(b3.block _ z0).trans hbx, hpl.under b3, (b2.block _ (by omega)).trans na, (hmd.alloc _).alloc _, (heap_alloc_old _ _ (by simp; omega)).trans nk, nt, World.ownsRow_nil _ _ _ _, ⟨z0, hM, by simp; omega⟩, by simp [nmS], hb.trans (b3.mono hb.size)⟩

set_option maxHeartbeats 16000000 in
theorem table_any (G : Gram) (hn64 : G.rules.length ≤ 1024) (K : Nat) (hK : K ≤ 1048576) (hsm : ∀ r ∈ G.rules, r.1.length ≤ 1048576 ∧ SmW r.2 ∧ (refs r.2).length ≤ K) (P : Nat → Prop) (W : World) (y : Value) (h : RlsAt P W G.rules y) :
    Calls Try.prog 10 #[.agg #[.string (Lx.mk G.start), y]] W fun e w' => ∃ pv, e = .returned pv ∧ w'.ownsRow W.heap.size 39 3 pv (tableP G.rules).length (cellsS (tableP G.rules)) ∧ Below W.heap.size W w' := by
  have hq := h.keep (Q := fun r => r < W.heap.size) (Nat.le_refl _) (fun r _ hr => ⟨hr, fun _ => rfl⟩)
  have HQ := Lib.hid hq
  obtain ⟨A, cap, b, a0, a1, a2, rfl, hcap, h3, h4⟩ := hq
  obtain ⟨rs, hrs⟩ : ∃ rs, rs = G.rules := ⟨_, rfl⟩
  rw [← hrs] at hn64 hsm h3 h4 hcap HQ ⊢
  obtain ⟨n, hn⟩ : ∃ n, n = rs.length := ⟨_, rfl⟩
  have hl0 : rs.length ≤ 1099511627776 := by omega
  rw [← hn] at h3 hn64 HQ ⊢
  have hbb : Below W.heap.size W (W.alloc (.cells #[.string (Lx.mk G.start), .slice A n cap] 25)) := (Below.refl _ _).alloc (Nat.le_refl _) _
  have hbx := heap_alloc_new W (.cells #[.string (Lx.mk G.start), .slice A n cap] 25)
  have HKF := Lib.hid (firsts_any rs hl0 (fun r hr => (hsm r hr).1) _ (W.alloc (.cells #[.string (Lx.mk G.start), .slice A n cap] 25)) _ (HQ.out.under hbb))
  have HN := Lib.hid hn
  have HSM := Lib.hid hsm
  have H3 := Lib.hid h3
  have H4 := Lib.hid h4
  have HBX := Lib.hid hbx
  have HBB := Lib.hid hbb
  have x1 := cell_of_row _ _ 1 _ _ (0, 0) hbx
  have hmf : ∀ (fn : Fn) (first cap : Array Value) (w : World), (Instr.makeFunc fn first cap).run Try.prog w = .ok (.func fn first cap) w := fun _ _ _ _ => rfl
  have hmm := @run_makeMap Try.prog
  clear hn hrs hsm h3 h4 hbx hbb hl0 h
  obtain ⟨ss, hss⟩ : ∃ ss, ss = Lx.mk G.start := ⟨_, rfl⟩
  rw [← hss] at HKF HBX HBB x1 ⊢
  clear hss
  go_enter Try.func10, Try.ntmps10
  go_wp2_with fail
  refine HKF.out.mono ?_
  rintro e w1 ⟨rfl, hpl, b1⟩
  rw [heap_size_alloc'] at hpl
  have hb1 := HBB.out.trans (b1.mono HBB.out.size)
  have hbx1 := (b1.block _ (Gn.heap_lt HBX.out)).trans HBX.out
  have hx1 := Gn.heap_lt hbx1
  have x1 := cell_of_row _ _ 1 _ _ (0, 0) hbx1
  have HPL := Lib.hid hpl
  have HB1 := Lib.hid hb1
  have HBX1 := Lib.hid hbx1
  clear hpl hb1 hbx1 b1 HKF HBX HBB
  have HTB := Lib.hid (start_tb W w1 rs #[.string ss, .slice A n cap] HPL.out HBX1.out HB1.out)
  have x2 := cell_of_row _ _ 1 _ _ (0, 0) HTB.out.box
  clear HPL HBX1 HB1 x1
  go_wp2_with fail
  generalize hV : World.alloc (World.alloc (World.alloc (World.alloc w1 _) _) _) _ = V
  rw [hV] at HTB
  clear hV x2
  obtain ⟨F, hF⟩ : ∃ F, F = w1.heap.size := ⟨_, rfl⟩
  rw [← hF] at HTB ⊢
  rw [show F + 1 + 1 = F + 2 from rfl, show F + 2 + 1 = F + 3 from rfl]
  clear hF
  have HADD := Lib.hid (fun (T : List Sy) (tv : Value) (s : Nam) (hs : s.length ≤ 1048576) (hT : T.length ≤ 1099511627776) (w : World) (h : TbAt W (W.heap.size + 1) F rs #[.string ss, .slice A n cap] T tv w) => add_any W (W.heap.size + 1) F rs #[.string ss, .slice A n cap] T tv s hs hT w h)
  go_loopw [21] (fun i wr => ∃ (j : Nat) (tv : Value), j ≤ n ∧ i = .int .i64 j ∧ TbAt W (W.heap.size + 1) F rs #[.string ss, .slice A n cap] (tabA rs (rs.take j)) tv wr) (fun i _ => n - (intOf i).toNat)
  case atStart => exact ⟨0, _, Nat.zero_le _, rfl, HTB.out⟩
  case round =>
    obtain ⟨k, tv, hk, rfl, hA⟩ := hrel
    have HA := Lib.hid hA
    clear hA
    by_cases hlt : k < n
    · have hlt2 : (k : Int) < (n : Int) := by omega
      have hkl : k < rs.length := by rw [← HN.out]; exact hlt
      obtain ⟨rfl, hbl, _⟩ := H3.out (by omega)
      obtain ⟨⟨q0, q1, q2, q3⟩, hnd⟩ := H4.out k hkl
      obtain ⟨kk, ta, AA, qq, cc, f1, f2, f3⟩ := hnd.form
      rw [f1] at q1
      rw [f2] at q2
      rw [f3] at q3
      obtain ⟨s1, s2, s3⟩ := HSM.out _ (List.getElem_mem hkl)
      have HTK := Lib.hid (show tabA rs (rs.take (k + 1)) = addP rs (tabA rs (rs.take k)) rs[k].1 by rw [List.take_succ_eq_append_getElem hkl, tabA_snoc])
      have htl := tabA_len rs (rs.take k)
      have htl2 : (rs.take k).length ≤ 1024 := by rw [List.length_take]; omega
      obtain ⟨r, hr⟩ : ∃ r, r = rs[k] := ⟨_, rfl⟩
      rw [← hr] at q0 s1 HTK
      have y0 := (HA.out.below.cell (p := ⟨b, k * 4, none⟩) hbl).trans q0
      have y1 := (HA.out.below.cell (p := ⟨b, k * 4 + 1, none⟩) hbl).trans q1
      have y2 := (HA.out.below.cell (p := ⟨b, k * 4 + 2, none⟩) hbl).trans q2
      have y3 := (HA.out.below.cell (p := ⟨b, k * 4 + 3, none⟩) hbl).trans q3
      obtain ⟨nm, hnm⟩ : ∃ nm, nm = Lx.mk r.1 := ⟨_, rfl⟩
      rw [← hnm] at y0
      have HA1 := Lib.hid (HA.out.under ((Below.refl wr.heap.size wr).alloc (Nat.le_refl _) (.cells #[.string nm, .int .i64 kk, .string ta, .slice AA qq cc] 65)))
      have HK1 := Lib.hid (HADD.out _ _ r.1 s1 (by omega) _ HA1.out)
      rw [← hnm] at HK1
      clear hr q0 q1 q2 q3 hnd f1 f2 f3 s1 s2 s3 hnm htl htl2
      go_wp2_with fail
      refine HK1.out.mono ?_
      rintro e w2 ⟨rfl, tv2, h2, _, _, _⟩
      have H2 := Lib.hid h2
      clear h2
      go_wp2_with fail
      go_roundw
      case rel => exact ⟨k + 1, tv2, by omega, by simp, by rw [HTK.out]; exact H2.out⟩
      case measure => simp [intOf]; omega
    · have hke : n = k := by omega
      subst hke
      have hlt2 : ¬ ((n : Nat) : Int) < ((n : Nat) : Int) := by omega
      have HA0 := Lib.hid (show TbAt W (W.heap.size + 1) F rs #[.string ss, .slice A n cap] (tabR rs (tabA rs rs) (rs.take 0)) tv wr by have := HA.out; rw [show rs.take n = rs by rw [HN.out, List.take_length]] at this; exact this)
      have x2 := cell_of_row _ _ 1 _ _ (0, 0) HA.out.box
      clear HA HTB
      go_wp2_with fail
      go_loopw [33] (fun i wr => ∃ (j : Nat) (tv : Value), j ≤ n ∧ i = .int .i64 j ∧ TbAt W (W.heap.size + 1) F rs #[.string ss, .slice A n cap] (tabR rs (tabA rs rs) (rs.take j)) tv wr) (fun i _ => n - (intOf i).toNat)
      case atStart => exact ⟨0, _, Nat.zero_le _, rfl, HA0.out⟩
      case round =>
        obtain ⟨k, tv, hk, rfl, hA⟩ := hrel
        have HA := Lib.hid hA
        clear hA
        by_cases hlt : k < n
        · have hlt2 : (k : Int) < (n : Int) := by omega
          have hkl : k < rs.length := by rw [← HN.out]; exact hlt
          obtain ⟨rfl, hbl, _⟩ := H3.out (by omega)
          obtain ⟨⟨q0, q1, q2, q3⟩, hnd⟩ := H4.out k hkl
          obtain ⟨kk, ta, AA, qq, cc, f1, f2, f3⟩ := hnd.form
          rw [f1] at q1
          rw [f2] at q2
          rw [f3] at q3
          rw [f1, f2, f3] at hnd
          obtain ⟨s1, s2, s3⟩ := HSM.out _ (List.getElem_mem hkl)
          have HTK := Lib.hid (show tabR rs (tabA rs rs) (rs.take (k + 1)) = tabU rs (tabR rs (tabA rs rs) (rs.take k)) (refs rs[k].2) by rw [List.take_succ_eq_append_getElem hkl, tabR_snoc])
          have htl : (tabR rs (tabA rs rs) (rs.take k)).length ≤ 1073742848 := by
            have h5 := tabA_len rs rs
            have h6 := tabR_len rs K (tabA rs rs) (rs.take k) (fun r hr => (HSM.out r (List.mem_of_mem_take hr)).2.2)
            have h7 : (rs.take k).length ≤ 1024 := by rw [List.length_take]; omega
            have h8 := Nat.mul_le_mul h7 hK
            have := HN.out
            omega
          obtain ⟨r, hr⟩ : ∃ r, r = rs[k] := ⟨_, rfl⟩
          rw [← hr] at q0 s2 s3 HTK hnd
          have y0 := (HA.out.below.cell (p := ⟨b, k * 4, none⟩) hbl).trans q0
          have y1 := (HA.out.below.cell (p := ⟨b, k * 4 + 1, none⟩) hbl).trans q1
          have y2 := (HA.out.below.cell (p := ⟨b, k * 4 + 2, none⟩) hbl).trans q2
          have y3 := (HA.out.below.cell (p := ⟨b, k * 4 + 3, none⟩) hbl).trans q3
          obtain ⟨nm, hnm⟩ : ∃ nm, nm = Lx.mk r.1 := ⟨_, rfl⟩
          rw [← hnm] at y0
          obtain ⟨T0, hT0⟩ : ∃ T0, T0 = tabR rs (tabA rs rs) (rs.take k) := ⟨_, rfl⟩
          have HM0 := Lib.hid (show Mx 1073741824 T0 by
            rw [hT0]
            have h6 := tabR_mx rs K (rs.take k) 0 (tabA rs rs) (fun r hr => (HSM.out r (List.mem_of_mem_take hr)).2.2) (tabA_mx rs rs)
            have h7 : (rs.take k).length ≤ 1024 := by rw [List.length_take]; omega
            have h8 := Nat.mul_le_mul h7 hK
            exact fun x hx => by have := h6 x hx; omega)
          rw [← hT0] at HA HTK htl
          have HA1 := Lib.hid (HA.out.under ((Below.refl wr.heap.size wr).alloc (Nat.le_refl _) (.cells #[.string nm, .int .i64 kk, .string ta, .slice AA qq cc] 65)))
          have HRF := Lib.hid (Refs_any s2 (fun q => q < W.heap.size) (wr.alloc (.cells #[.string nm, .int .i64 kk, .string ta, .slice AA qq cc] 65)) _ _ _ (hnd.keep HA1.out.below.size (fun q hq _ => ⟨hq, fun i => HA1.out.below.cell (p := ⟨q, i, none⟩) hq⟩)) (fun q hq => Nat.lt_of_lt_of_le hq HA1.out.below.size) (by omega))
          have HSR := Lib.hid (refs_small s2)
          have hrb := heap_alloc_new wr (.cells #[.string nm, .int .i64 kk, .string ta, .slice AA qq cc] 65)
          obtain ⟨bd, hbd⟩ : ∃ bd, bd = refs r.2 := ⟨_, rfl⟩
          rw [← hbd] at HRF HSR s3 HTK
          have u1 := cell_of_row _ _ 1 _ _ (0, 0) hrb
          have u2 := cell_of_row _ _ 2 _ _ (0, 0) hrb
          have u3 := cell_of_row _ _ 3 _ _ (0, 0) hrb
          clear hr q0 q1 q2 q3 hnd f1 f2 f3 s1 s2 hnm hrb hbd hT0
          go_wp2_with fail
          generalize hV : World.alloc wr _ = wq
          rw [hV] at HA1 HRF u1 u2 u3
          clear hV u1 u2 u3 y0 y1 y2 y3
          refine HRF.out.mono ?_
          rintro e w5 ⟨v5, rfl, ho5, b5⟩
          have HA5 := Lib.hid (HA1.out.under b5)
          have hms := NmsAt.of_own rfl ho5
          have hob5 := Gn.own_block ho5
          have hwq := HA1.out.lts
          obtain ⟨A5, c5, b6, rfl, m3, m4⟩ := hms
          obtain ⟨nl, hnl⟩ : ∃ nl, nl = bd.length := ⟨_, rfl⟩
          rw [← hnl] at m3 s3 ⊢
          have HNL := Lib.hid hnl
          have HM3 := Lib.hid m3
          have HM4 := Lib.hid m4
          have HSEP := Lib.hid (show 0 < nl → F + 4 ≤ b6 ∧ tv.ownBlock ≠ some b6 from fun h0 => by
            have h2 := hob5 b6 (by rw [(m3 h0).1]; rfl)
            exact ⟨by omega, fun e => by have := Gn.own_lt HA1.out.row _ e; omega⟩)
          clear hnl m3 m4 ho5 b5 hob5 HRF HA1
          go_wp2_with fail
          go_loopw [41] (fun i wx => ∃ (j : Nat) (tv : Value), j ≤ nl ∧ i = .int .i64 j ∧ TbAt W (W.heap.size + 1) F rs #[.string ss, .slice (some ⟨b, 0, none⟩) n cap] (tabU rs T0 (bd.take j)) tv wx ∧ (∀ i (h : i < bd.length), wx.cell? ⟨b6, i, none⟩ = some (strV bd[i])) ∧ (0 < nl → F + 4 ≤ b6 ∧ tv.ownBlock ≠ some b6 ∧ b6 < wx.heap.size)) (fun i _ => nl - (intOf i).toNat)
          case atStart => exact ⟨0, _, Nat.zero_le _, rfl, HA5.out, HM4.out, fun h0 => ⟨(HSEP.out h0).1, (HSEP.out h0).2, (HM3.out h0).2⟩⟩
          case round =>
            obtain ⟨j, tv, hj, rfl, hA, hcl, hsep⟩ := hrel
            have HA := Lib.hid hA
            have HCL := Lib.hid hcl
            have HSP := Lib.hid hsep
            clear hA hcl hsep HSEP HA5
            by_cases hjn : j < nl
            · have hjn2 : (j : Int) < (nl : Int) := by omega
              have hjl : j < bd.length := by rw [← HNL.out]; exact hjn
              obtain ⟨rfl, _⟩ := HM3.out (by omega)
              have yx := HCL.out j hjl
              have hxs := HSR.out _ (List.getElem_mem hjl)
              have HTU := Lib.hid (show tabU rs T0 (bd.take (j + 1)) = useP rs (tabU rs T0 (bd.take j)) bd[j] by rw [List.take_succ_eq_append_getElem hjl, tabU_snoc])
              have hul := tabU_len rs T0 (bd.take j)
              have hul2 : (bd.take j).length ≤ nl := by rw [List.length_take]; omega
              obtain ⟨x, hx⟩ : ∃ x, x = bd[j] := ⟨_, rfl⟩
              rw [← hx] at yx hxs HTU
              obtain ⟨T, hTT⟩ : ∃ T, T = tabU rs T0 (bd.take j) := ⟨_, rfl⟩
              rw [← hTT] at HA HTU hul
              have HK1 := Lib.hid (HADD.out T tv x hxs (by omega) wr HA.out)
              have hkey := Go.WideMaps.keyOf_string_mk (P := Try.prog) Try.underlying9 (s := Lx.mk x) (by show x.length ≤ maxLen; unfold maxLen; omega)
              have hal := add_len rs T x
              have HMX := Lib.hid (add_mx (B := 1073741824 + (bd.take j).length) rs T x (by rw [hTT]; exact tabU_mx rs (bd.take j) _ T0 HM0.out))
              have hjl2 : (bd.take j).length ≤ 1048576 := by omega
              obtain ⟨xm, hxm⟩ : ∃ xm, xm = Lx.mk x := ⟨_, rfl⟩
              unfold strV at yx
              rw [← hxm] at yx HK1 hkey
              have HXM := Lib.hid hxm
              clear hx hTT hxm
              go_wp2_with fail
              refine HK1.out.mono ?_
              rintro e w2 ⟨rfl, tv2, h2, hsz2, htv2, hkp2⟩
              obtain ⟨T1, hT1⟩ : ∃ T1, T1 = addP rs T x := ⟨_, rfl⟩
              have hmem := add_mem rs T x
              have addT1 := Lib.hid hT1
              rw [← hT1] at h2 hal hmem
              have HT1 := Lib.hid (show tabU rs T0 (bd.take (j + 1)) = incP T1 x by rw [HTU.out, hT1]; rfl)
              have hsp2 : F + 4 ≤ b6 ∧ tv2.ownBlock ≠ some b6 ∧ b6 < w2.heap.size := by
                obtain ⟨p1, p2, p3⟩ := HSP.out (by omega)
                refine ⟨p1, ?_, by omega⟩
                rcases htv2 with h7 | ⟨g, h7, h8⟩
                · rw [h7]; exact p2
                · rw [h7]; intro e; injection e with e; omega
              have HCL2 := Lib.hid (show ∀ i (h : i < bd.length), w2.cell? ⟨b6, i, none⟩ = some (strV bd[i]) from fun i hi => by
                obtain ⟨p1, p2, p3⟩ := HSP.out (by omega)
                exact (Gn.cell_same (hkp2 b6 p1 p3 p2) i).trans (HCL.out i hi))
              obtain ⟨ix, hi, hii⟩ := List.getElem_of_mem hmem
              have hi2 : ix < T1.length := by simpa [nmS] using hi
              obtain ⟨g, c2, rfl⟩ := row_some h2.row (by omega)
              have hic : (T1[ix]).1 = x := by simpa [nmS] using hii
              have HAT := Lib.hid (show ∀ z, (knD (nmS T1)).atKey (.string x) z = .lit (.int .i64 (ix : Int)) from fun z => by rw [← hii]; exact knD_at z _ ix hi h2.nodup)
              have k0 := (cell_of_box_n h2.kcell).1
              have t0 := (cell_of_box_n h2.tcell).1
              have hkn := h2.known
              have cu := (World.ownsRow.cellAt h2.row (ix * 3 + 2) (by omega)).trans (cellsS_at T1 ix hi2)
              have fu := World.ownsRow.frozenAt h2.row (ix * 3 + 2)
              have HU := Lib.hid (h2.use x ix hi2 hic)
              have hT1l : T1.length ≤ 1099511627776 := by omega
              obtain ⟨un, hun⟩ : ∃ un, un = (T1[ix]).2.2 := ⟨_, rfl⟩
              have hub : un ≤ 1099511627776 := by
                rw [hun]
                have h5 := HMX.out (T1[ix]) (by rw [← addT1.out]; exact List.getElem_mem hi2)
                omega
              obtain ⟨L, hL⟩ : ∃ L, L = T1.length := ⟨_, rfl⟩
              have HS3 := Lib.hid (show ∀ (u : Value) i (h : i < bd.length), (w2.setCell ⟨g, ix * 3 + 2, none⟩ u).cell? ⟨b6, i, none⟩ = some (strV bd[i]) from fun u i hi => (Gn.cell_same (Gn.set_keep w2 _ _ (fun e => hsp2.2.1 (by rw [e]; rfl))) i).trans (HCL2.out i hi))
              rw [← hun] at cu HU
              rw [← hL] at t0 hi2 hT1l HU hsp2
              have HLL := Lib.hid hL
              have hi3 : (ix : Int) < (L : Int) := by omega
              have HS2 := Lib.hid hsp2
              clear h2 htv2 hkp2 hmem hi hii hic hun HTU HK1 hsp2 HA hal hul hul2 hT1 hL hjl2 addT1 HMX
              go_wp2_with (at_lookup; refine wpList_lookup_own_int _ rfl _ _ 71 rfl 9 3 .i64 (Maps.string_keyed Try.underlying9) Try.underlying71 Try.underlying3 (zero_int _) (F + 1) _ _ rfl hkn _ _ rfl hkey ?_; intro c hat hwc; have hc : c = (ix : Int) := (by have h8 := hat.symm.trans ((congrArg (fun q => (knD (nmS T1)).atKey (.string q) (.lit (.int .i64 0))) (show xm.data.toList = x by rw [HXM.out]; rfl)).trans (HAT.out _)); injection h8 with h8; injection h8); subst hc; clear hat hwc)
              go_roundw
              case rel => exact ⟨j + 1, _, by omega, by simp, by rw [HT1.out]; exact HU.out, HS3.out _, fun _ => ⟨HS2.out.1, HS2.out.2.1, by rw [show (w2.setCell _ _).heap.size = w2.heap.size by simp [World.setCell]]; exact HS2.out.2.2⟩⟩
              case measure => simp [intOf]; omega
            · have hje : nl = j := by omega
              subst hje
              have hjn2 : ¬ ((nl : Nat) : Int) < ((nl : Nat) : Int) := by omega
              have HFIN := Lib.hid (show tabR rs (tabA rs rs) (rs.take (k + 1)) = tabU rs T0 (bd.take nl) by rw [HTK.out, HNL.out, List.take_length])
              go_wp2_with fail
              go_roundw
              case rel => exact ⟨k + 1, tv, by omega, by simp, by rw [HFIN.out]; exact HA.out⟩
              case measure => simp [intOf]; omega
        · have hke : n = k := by omega
          subst hke
          have hlt2 : ¬ ((n : Nat) : Int) < ((n : Nat) : Int) := by omega
          have HF := Lib.hid (show tabR rs (tabA rs rs) (rs.take n) = tableP rs by rw [HN.out, List.take_length]; rfl)
          have t0 := (cell_of_box_n HA.out.tcell).1
          have HL := Lib.hid HA.out.lts
          obtain ⟨At, ct, rfl⟩ := Gn.slice_of HA.out.row
          go_wp2_with fail
          go_ret
          exact ⟨_, rfl, by have := HA.out.row; rw [HF.out] at this ⊢; exact own_mono1 this (by have := HL.out; omega), HA.out.below⟩
end Go.Proofs.Ytakihbjfkpebcaa.Sx
