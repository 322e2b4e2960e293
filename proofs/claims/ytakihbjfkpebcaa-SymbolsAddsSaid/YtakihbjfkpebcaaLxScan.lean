/-
  The walk of Scan.
-/
import Derived.Test.YtakihbjfkpebcaaLxTok
namespace Go.Proofs.Ytakihbjfkpebcaa.Lx
open Go.RowKit
set_option maxRecDepth 100000

/-- The tokens' cells. -/
def tkCells (ts : List Tk) : List Value := ts.flatMap fun t => [.int .i64 t.kind, .string (mk t.text), .int .i64 t.line, .int .i64 t.col]
theorem tkCells_snoc (ts : List Tk) (t : Tk) : tkCells (ts ++ [t]) = tkCells ts ++ [.int .i64 t.kind, .string (mk t.text), .int .i64 t.line, .int .i64 t.col] := by simp [tkCells]

/-- What Scan tells. -/
def scanS (s : List UInt8) : List Tk × (Nat × Nat × Nat) := if 65536 < s.length then ([], (0, 0, 6)) else scanG false s 1 1

def Scanned (w : World) (R : List Tk × (Nat × Nat × Nat)) (e : Ending) (w' : World) : Prop :=
  ∃ A cap, e = .returned (.tuple #[.slice A R.1.length cap, fltV R.2]) ∧ w'.ownsRow w.heap.size 110 4 (.slice A R.1.length cap) R.1.length (tkCells R.1) ∧ Below w.heap.size w w'

/-- A result in a slot, one in a block. -/
theorem results_tmp_cell {P : Program} {fn : Func} {p q : Tmp} {uy : TypeId} (h : fn.results = #[.tmp p, .cell q uy]) (tmps : Array Value) (w : World) (k : Nat) (u : TypeId) (ds : Array Value) (fs : Nat × Nat) (e : TypeDesc) (v : Value)
    (hp : tmps.getD p undef = v) (hq : tmps.getD q undef = .pointer (some ⟨k, 0, none⟩)) (hk : w.heap[k]? = some (.cells ds u fs)) (hv : P.underlying uy = some e) (he : (match e with | .struct _ | .array _ _ => true | _ => false) = true) (hj : (P.info? uy).map (·.size) = some ds.size) :
    (results fn tmps).run P w = .ok (.tuple #[v, .agg ds]) w := by
  have hp' : tmps[p]?.getD undef = v := by simpa using hp
  have hq' : tmps[q]?.getD undef = .pointer (some ⟨k, 0, none⟩) := by simpa using hq
  simp [results, h, hp', hq', asAddr, run_loadVar_row w k u uy ds fs e hk hv he hj]

theorem Sep.to_below {g c B : Nat} {w w' : World} (h : Sep g c w w') (hg : B ≤ g) (hc : B ≤ c) : Below B w w' := h.below hg hc

/-- Behind a token's call: its two results stand in new blocks. -/
structure After (w w2 W : World) (B : Nat) (Y : ByteArray) (l c : Nat) (v : Value) (n : Nat) (xs : List Value) (k : Int) (tx : ByteArray) (tl tc f0 f1 f2 : Int) : Prop where
  t : TkAt W w2.heap.size k tx tl tc
  f : FtAt W (w2.heap.size + 1) f0 f1 f2
  r : FtAt W B 0 0 0
  sc : Sc W (B + 1) Y l c
  own : W.ownsRow B 110 4 v n xs
  bel : Below B w W
  size : w2.heap.size + 2 ≤ W.heap.size
theorem after_new {w w2 : World} {B : Nat} {Y : ByteArray} {l c : Nat} {v : Value} {n : Nat} {xs : List Value} (hB : B + 1 < w2.heap.size) (r : FtAt w2 B 0 0 0) (sc : Sc w2 (B + 1) Y l c) (own : w2.ownsRow B 110 4 v n xs) (bel : Below B w w2) (k : Int) (tx : ByteArray) (tl tc f0 f1 f2 : Int) :
    After w w2 ((w2.alloc (.cells #[.int .i64 k, .string tx, .int .i64 tl, .int .i64 tc] 110)).alloc (.cells #[.int .i64 f0, .int .i64 f1, .int .i64 f2] 67)) B Y l c v n xs k tx tl tc f0 f1 f2 := by
  have keep : ∀ (b : Nat) (a o o' : Obj), w2.heap[b]? = some o' → ((w2.alloc a).alloc o).heap[b]? = some o' := fun b a o o' h => by
    exact (heap_alloc_old _ o (by simp; have := heap_lt h; omega)).trans ((heap_alloc_old w2 a (heap_lt h)).trans h)
  refine ⟨heap_alloc2_old w2 _ _, heap_alloc2_new w2 _ _, keep _ _ _ _ r, keep _ _ _ _ sc, (own.alloc _).alloc _, (bel.alloc (by omega) _).alloc (by simp; omega) _, by simp⟩

theorem after_grow {w w2 W w4 : World} {B : Nat} {Y : ByteArray} {l c : Nat} {v : Value} {n : Nat} {xs : List Value} {k : Int} {tx : ByteArray} {tl tc f0 f1 f2 : Int} (h : After w w2 W B Y l c v n xs k tx tl tc f0 f1 f2)
    (own2 : w2.ownsRow B 110 4 v n xs) (hB : B ≤ w2.heap.size) (o : Obj) (hg : (W.alloc o).grownBy w4 v.ownBlock) : TkAt w4 w2.heap.size k tx tl tc ∧ FtAt w4 B 0 0 0 ∧ Sc w4 (B + 1) Y l c ∧ Below B w w4 := by
  have hsz := h.size
  have keep : ∀ (b : Nat) (o' : Obj), W.heap[b]? = some o' → some b ≠ v.ownBlock → w4.heap[b]? = some o' := fun b o' h1 h2 =>
    (hg.block b (by simp; have := heap_lt h1; omega) h2).trans ((heap_alloc_old W o (heap_lt h1)).trans h1)
  refine ⟨keep _ _ h.t ?_, keep _ _ h.r (not_row h.own h.r (by decide)), keep _ _ h.sc (not_row h.own h.sc (by decide)), ?_⟩
  · intro e
    rcases own2.2 with ⟨h1, _⟩ | ⟨r', cp, cur, h1, h2, h3, _⟩
    · rw [h1] at e; simp [Value.ownBlock] at e
    · rw [h1] at e
      have := heap_lt h3
      simp [Value.ownBlock] at e
      omega
  · exact h.bel.trans ⟨hg.os, hg.tape, hg.output, by have := hg.size; simp at this; omega, fun b hb => (hg.block b (by simp; omega) (fun e => by have := own_block h.own b e.symm; omega)).trans (heap_alloc_old W o (by omega))⟩
theorem tkinfo : (Try.prog.info? 110).map (fun i => (i.zero, i.size, i.bytes)) = some (some (.agg #[.int .i64 0, .string ⟨#[]⟩, .int .i64 0, .int .i64 0]), 4, 40) := by kernel_rfl
theorem ft_set3 {W : World} {B : Nat} (h : FtAt W B 0 0 0) (f0 f1 f2 : Int) : FtAt (((W.setCell ⟨B, 0, none⟩ (.int .i64 f0)).setCell ⟨B, 1, none⟩ (.int .i64 f1)).setCell ⟨B, 2, none⟩ (.int .i64 f2)) B f0 f1 f2 :=
  heap_set (heap_set (heap_set h 0 _) 1 _) 2 _

theorem add_row (b j : Nat) : (⟨b, 0, none⟩ : Addr).add j = ⟨b, j, none⟩ := by
  unfold Addr.add
  split
  · rename_i h; subst h; rfl
  · simp
theorem row_new (w : World) (cs : List Value) (T : TypeId) (b : Nat) (hb : b = w.heap.size) : ∀ j u, cs[j]? = some u → (w.alloc (.cells cs.toArray T)).cell? ((⟨b, 0, none⟩ : Addr).add j) = some u := by
  intro j u h
  subst hb
  rw [add_row, cell_of_row _ _ j _ _ _ (heap_alloc_new w _)]
  simpa using h

/-- How far Scan is. -/
def ScAt (s : ByteArray) (B : Nat) (tot : List Tk × (Nat × Nat × Nat)) (w wr : World) (v : Value) : Prop :=
  ∃ (m l c cap : Nat) (A : Option Addr) (acc : List Tk), v = .slice A acc.length cap ∧ m ≤ s.size ∧ l ≤ 1 + m ∧ 1 ≤ c ∧ c ≤ 1 + m ∧ acc.length ≤ m ∧
    tot = pre acc (scanG false (bs (cut s m)) l c) ∧ Sc wr (B + 1) (cut s m) l c ∧ wr.ownsRow B 110 4 v acc.length (tkCells acc) ∧ FtAt wr B 0 0 0 ∧ Below B w wr

set_option maxRecDepth 100000 in
set_option maxHeartbeats 4000000 in
theorem scan_any (s : ByteArray) (w : World) (hs : s.size ≤ 1048576) :
    Calls Try.prog 38 #[.string s] w (Scanned w (scanS (bs s))) := by
  by_cases hlong : 65536 < s.size
  · have hR : scanS (bs s) = ([], (0, 0, 6)) := by rw [scanS, if_pos (by rw [bs_len]; exact hlong)]
    rw [hR]
    clear hR
    go_enter Try.func38, Try.ntmps38
    go_wp2
    refine bodyPost_ret (results_tmp_cell (P := Try.prog) rfl _ _ w.heap.size 67 _ (0, 0) _ _ rfl rfl (heap_alloc_new w _) Try.underlying67 rfl rfl) rfl ⟨none, 0, rfl, World.ownsRow_nil _ _ _ _, (Below.refl _ _).alloc (Nat.le_refl _) _⟩
  · have hR : scanS (bs s) = scanG false (bs s) 1 1 := by rw [scanS, if_neg (by rw [bs_len]; exact hlong)]
    rw [hR]
    obtain ⟨tot, htot⟩ : ∃ tot, tot = scanG false (bs s) 1 1 := ⟨_, rfl⟩
    rw [← htot]
    have HT := Lib.hid htot
    clear hR htot
    obtain ⟨i0, hi0, hz0, hz1, hz2⟩ := info_parts tkinfo
    go_enter Try.func38, Try.ntmps38
    go_wp2
    go_loopw [5] (fun v wr => ScAt s w.heap.size tot w wr v) (fun _ wr => leftOf wr (w.heap.size + 1))
    case atStart =>
      refine ⟨0, 1, 1, 0, none, [], rfl, by omega, by omega, by omega, by omega, by simp, ?_, ?_, World.ownsRow_nil _ _ _ _, ?_, ?_⟩
      · rw [cut_zero, pre_nil _ (scanG_err _ _ _ _), HT.out]
      · rw [cut_zero]
        exact heap_alloc2_new w _ _
      · exact heap_alloc2_old w _ _
      · exact zeros_below w _ _
    case round =>
      obtain ⟨m, l, c, cap, A, acc, rfl, hm, hl1, hc0, hc1, hacc, hrl, hsc, hown, hf, hbel⟩ := hrel
      obtain ⟨X, hX⟩ : ∃ X, X = cut s m := ⟨_, rfl⟩
      have hXs : X.size = s.size - m := by rw [hX, cut_size]
      rw [← hX] at hrl hsc
      obtain ⟨Y, hY⟩ : ∃ Y, Y = cut X (rskip false (bs X) l c).1 := ⟨_, rfl⟩
      obtain ⟨l', hl'⟩ : ∃ l', l' = (rskip false (bs X) l c).2.1 := ⟨_, rfl⟩
      obtain ⟨c', hc'⟩ : ∃ c', c' = (rskip false (bs X) l c).2.2 := ⟨_, rfl⟩
      have hbd := rskip_bd (bs X) false l c hc0
      have hYs : Y.size = X.size - (rskip false (bs X) l c).1 := by rw [hY, cut_size]
      have hr2 : scanG false (bs X) l c = scanT (bs Y) l' c' := by rw [scanG_is, hY, bs_cut, hl', hc']
      rw [hr2] at hrl
      have KT := token_any (w.heap.size + 1) X Y l c l' c' wr hsc (by omega) (by omega) (by omega) hc0 hY hl' hc'
      rw [← hl', ← hc', bs_len] at hbd
      obtain ⟨j, hj⟩ : ∃ j, j = (rskip false (bs X) l c).1 := ⟨_, rfl⟩
      rw [← hj] at hbd hYs hY
      have hYm : Y = cut s (m + j) := by rw [hY, hX, cut_cut]
      have hlf := leftOf_is hsc
      have hnle := rtok_le (bs Y) l' c'
      rw [bs_len] at hnle
      have hnpos := rtok_pos (bs Y) l' c'
      unfold scanT at hrl
      clear hl' hc' hj hr2 hY
      obtain ⟨⟨⟨k, tx, tl, tc⟩, ⟨f0, f1, f2⟩, n⟩, hR1⟩ : ∃ x, x = rtok (bs Y) l' c' := ⟨_, rfl⟩
      rw [← hR1] at hrl KT hnle hnpos
      simp only at hrl hnle hnpos
      have hy : cut Y n = cut s (m + j + n) := by rw [hYm, cut_cut]
      have KT1 : Calls Try.prog 49 #[.pointer (some ⟨w.heap.size + 1, 0, none⟩)] wr (fun e w' => e = .returned (.tuple #[.agg #[.int .i64 k, .string (mk tx), .int .i64 tl, .int .i64 tc], .agg #[.int .i64 f0, .int .i64 f1, .int .i64 f2]]) ∧ Sc w' (w.heap.size + 1) (cut Y n) l' (c' + n) ∧ Sep (w.heap.size + 1) wr.heap.size wr w') := KT
      obtain ⟨txb, htxb⟩ : ∃ txb, txb = mk tx := ⟨_, rfl⟩
      rw [← htxb] at KT1
      rw [hy] at KT1
      have HTX := Lib.hid htxb
      have HY := Lib.hid hy
      have HRL := Lib.hid hrl
      have KT2 := Lib.hid KT1
      have HO := Lib.hid hown
      have HSc := Lib.hid hsc
      have HF := Lib.hid hf
      have HB := Lib.hid hbel
      have hwr := hbel.size
      have hwB : w.heap.size + 1 < wr.heap.size := heap_lt hsc
      have hnlit : m + j + n ≤ s.size := by omega
      clear hrl KT KT1 hown hsc hf hbel hR1 htxb hX hYm hy hYs
      go_wp2_with fail
      refine KT2.out.mono ?_
      rintro e w2 ⟨rfl, s1, s2⟩
      have hw2 := s2.size
      have hown2 := s2.own HO.out HSc.out (by decide)
      have hf2 : FtAt w2 w.heap.size 0 0 0 := (s2.block _ (heap_lt HF.out) (by omega)).trans HF.out
      have hb2 : Below w.heap.size w w2 := HB.out.trans (s2.to_below (by omega) hwr)
      have HO2 := Lib.hid hown2
      have HF2 := Lib.hid hf2
      have HB2 := Lib.hid hb2
      have HS2 := Lib.hid s1
      clear hown2 hf2 hb2 s1 s2
      by_cases h2 : f2 = 0
      · subst h2
        have HA := Lib.hid (after_new (by omega) HF2.out HS2.out HO2.out HB2.out k txb tl tc f0 f1 0)
        go_wp2_with ((at_builtin; refine wpList_append_own _ rfl _ _ 87 rfl w.heap.size 110 i0 (.agg #[.int .i64 0, .string ⟨#[]⟩, .int .i64 0, .int .i64 0]) 4 40 Try.underlying87 hi0 hz0 hz1 hz2 rfl (by decide) _ _ _ rfl (HA.out.own.alloc _) ⟨w2.heap.size + 1 + 1, 0, none⟩ 1 1 [.int .i64 k, .string txb, .int .i64 tl, .int .i64 tc] rfl rfl ?c1 ?c2 ?c3 ?c4 ?c5 ?_))
        case c1 => exact row_new _ [.int .i64 k, .string txb, .int .i64 tl, .int .i64 tc] _ _ (by simp)
        case c2 => simp [Value.oneCell']
        case c3 => unfold maxLen; omega
        case c4 => omega
        case c5 => simp; omega
        intro v' w4 hown4 hgrow4 _
        obtain ⟨g1, g2, g3, g4⟩ := after_grow HA.out HO2.out (by omega) _ hgrow4
        obtain ⟨A', cap', rfl⟩ := slice_of hown4
        have hrl := HRL.out
        rw [if_neg (by omega)] at hrl
        have hlen : (acc ++ [(⟨k, tx, tl, tc⟩ : Tk)]).length = acc.length + 1 := by simp
        have hcells : tkCells (acc ++ [(⟨k, tx, tl, tc⟩ : Tk)]) = tkCells acc ++ [.int .i64 k, .string txb, .int .i64 tl, .int .i64 tc] := by rw [tkCells_snoc, HTX.out]
        rw [← hcells] at hown4
        obtain ⟨y0, y1, y2, y3, yf⟩ := g1.facts
        obtain ⟨z0, z1, z2, zf⟩ := g2.facts
        have G2 := Lib.hid g2
        have G3 := Lib.hid g3
        have G4 := Lib.hid g4
        have HO4 := Lib.hid hown4
        have HL := Lib.hid hlen
        have hlf4 := Lib.hid (leftOf_is g3)
        have hlf5 := Lib.hid hlf
        clear g1 g2 g3 g4 hown4 hlen hcells hgrow4 HRL HTX hlf
        by_cases hk : k = 4
        · rw [if_pos hk] at hrl
          have HRF := Lib.hid hrl
          subst hk
          clear hrl
          go_wp2
          have hO : FtAt _ _ 0 0 0 := ft_set3 G2.out 0 0 0
          refine bodyPost_ret (results_tmp_cell (P := Try.prog) rfl _ _ w.heap.size 67 _ (0, 0) _ _ rfl rfl hO Try.underlying67 rfl rfl) rfl ?_
          rw [HRF.out, pre, if_pos rfl]
          refine ⟨A', cap', ?_, ?_, ((G4.out.setCell (p := ⟨w.heap.size, 0, none⟩) (Nat.le_refl _) (.int .i64 0)).setCell (p := ⟨w.heap.size, 1, none⟩) (Nat.le_refl _) (.int .i64 0)).setCell (p := ⟨w.heap.size, 2, none⟩) (Nat.le_refl _) (.int .i64 0)⟩
          · simp only [HL.out]; rfl
          · simp only [HL.out]
            have hsq : Sep w.heap.size w4.heap.size w4 (((w4.setCell ⟨w.heap.size, 0, none⟩ (.int .i64 0)).setCell ⟨w.heap.size, 1, none⟩ (.int .i64 0)).setCell ⟨w.heap.size, 2, none⟩ (.int .i64 0)) :=
              Sep.setCell (p := ⟨w.heap.size, 2, none⟩) (Sep.setCell (p := ⟨w.heap.size, 1, none⟩) (Sep.setCell (p := ⟨w.heap.size, 0, none⟩) (Sep.refl _ _ w4) (.inl rfl) _) (.inl rfl) _) (.inl rfl) _
            exact hsq.own HO4.out G2.out (by decide)
        · rw [if_neg hk] at hrl
          have hn := hnpos trivial hk
          have HRF := Lib.hid hrl
          have e1 : ((k : Int) == 4) = false := by rw [beq_eq_false_iff_ne]; omega
          have e2 : ((k : Int) != 4) = true := by rw [bne_iff_ne]; omega
          clear hrl
          go_wp2
          refine ⟨⟨m + j + n, l', c' + n, cap', A', acc ++ [⟨k, tx, tl, tc⟩], by rw [HL.out], by omega, by omega, by omega, by omega, by rw [HL.out]; omega, ?_, G3.out, ?_, G2.out, G4.out⟩, ?_⟩
          · rw [HRF.out, pre_pre, ← HY.out, bs_cut]
          · rw [HL.out]; exact HO4.out
          · rw [hlf4.out, hlf5.out, cut_size]; omega
      · have hrl := HRL.out
        rw [if_pos h2] at hrl
        have hp : pre acc ([], (f0, f1, f2)) = ([], (f0, f1, f2)) := by unfold pre; rw [if_neg h2]
        rw [hp] at hrl
        have HRF := Lib.hid hrl
        have e1 : ((f2 : Int) != 0) = true := by rw [bne_iff_ne]; omega
        have e2 : ((f2 : Int) == 0) = false := by rw [beq_eq_false_iff_ne]; omega
        have HA := Lib.hid (after_new (by omega) HF2.out HS2.out HO2.out HB2.out k txb tl tc f0 f1 f2)
        clear hrl HRL hp
        go_wp2_with fail
        generalize hW : World.alloc _ _ = W3
        rw [hW] at HA
        obtain ⟨z0, z1, z2, zf⟩ := HA.out.r.facts
        obtain ⟨y0, y1, y2, yf⟩ := HA.out.f.facts
        have hsz3 := HA.out.size
        clear hW
        go_region
        go_wp2
        have hO : FtAt _ _ f0 f1 f2 := ft_set3 HA.out.r f0 f1 f2
        refine bodyPost_ret (results_tmp_cell (P := Try.prog) rfl _ _ w.heap.size 67 _ (0, 0) _ _ rfl rfl hO Try.underlying67 rfl rfl) rfl ?_
        rw [HRF.out]
        refine ⟨none, 0, rfl, World.ownsRow_nil _ _ _ _, ?_⟩
        have hb := ((HA.out.bel.setCell (p := ⟨w.heap.size, 0, none⟩) (Nat.le_refl _) (.int .i64 f0)).setCell (p := ⟨w.heap.size, 1, none⟩) (Nat.le_refl _) (.int .i64 f1)).setCell (p := ⟨w.heap.size, 2, none⟩) (Nat.le_refl _) (.int .i64 f2)
        exact ⟨hb.os, hb.tape, hb.output, hb.size, hb.block⟩

end Go.Proofs.Ytakihbjfkpebcaa.Lx
