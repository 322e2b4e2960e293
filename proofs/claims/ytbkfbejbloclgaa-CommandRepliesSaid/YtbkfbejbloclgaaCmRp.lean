/-
  Layer 21: the laws' replies: a raw answer as two replies.
-/
import Derived.Test.YtbkfbejbloclgaaCmR7
namespace Go.Proofs.Ytbkfbejbloclgaa.Cm
open Go.RowKit
open Oct (pb bs Strs rInt rText rTexts rErr rEnd At Sep Gives strV OutSt OSep app eInt eText eTexts eLen rng)
open Lx (goodB)
open Gn (Asks)
open Mk (gm canon)
set_option maxRecDepth 100000
set_option linter.unusedSimpArgs false
set_option linter.unusedVariables false

/-- A text cut off. -/
def cutS (s : ByteArray) (k : Nat) : ByteArray := s.extract 0 (min s.size k)
/-- A raw answer; its marks by their bits. -/
def U64s (w : World) (a : Option Addr) (n : Nat) (ms : List Nat) : Prop :=
  ms.length = n ∧ (∀ x ∈ ms, x < 18446744073709551616) ∧ (0 < n → ∃ b off, a = some ⟨b, off, none⟩ ∧ b < w.heap.size ∧ ∀ i, i < n → w.cell? ⟨b, off + i, none⟩ = some (.int .u64 ((ms.getD i 0 : Nat) : Int)))
theorem U64s.under {w w' : World} {a : Option Addr} {n : Nat} {ss : List Nat} (h : U64s w a n ss) (b : Below w.heap.size w w') : U64s w' a n ss := by
  refine ⟨h.1, h.2.1, fun h0 => ?_⟩
  obtain ⟨r, off, e, hr, hc⟩ := h.2.2 h0
  exact ⟨r, off, e, by have := b.size; omega, fun i hi => (b.cell (p := ⟨r, off + i, none⟩) hr).trans (hc i hi)⟩
theorem U64s.get {w : World} {a : Option Addr} {n : Nat} {ss : List Nat} (h : U64s w a n ss) (k : Nat) (hk : k < n) : ∃ b off, a = some ⟨b, off, none⟩ ∧ b < w.heap.size ∧ w.cell? ⟨b, off + k, none⟩ = some (.int .u64 ((ss[k]'(by rw [h.1]; exact hk) : Nat) : Int)) := by
  obtain ⟨b, off, e, hb, hc⟩ := h.2.2 (by omega)
  refine ⟨b, off, e, hb, ?_⟩
  rw [hc k hk, List.getD_eq_getElem?_getD, List.getElem?_eq_getElem (by rw [h.1]; exact hk)]
  rfl
def AnsAt (W : World) (r : Rep) (v : Value) : Prop := ∃ a cap b cap', v = .agg #[.int .i64 r.code, .int .i64 r.line, .int .i64 r.col, .int .i64 r.count, .string r.text, .slice a r.texts.length cap, .slice b r.marks.length cap'] ∧ Strs W a r.texts.length r.texts ∧ U64s W b r.marks.length r.marks
structure ShortR (r : Rep) : Prop where
  text : r.text.size ≤ 9223372036854775807
  texts : r.texts.length ≤ 9223372036854775807
  each : ∀ s ∈ r.texts, s.size ≤ 9223372036854775807
  marks : r.marks.length ≤ 9223372036854775807
def repOf (r : Rep) : Rep := ⟨r.code, r.line, r.col, r.count, cutS r.text 2000, (r.texts.take 50).map fun s => cutS s 500, r.marks.take 50⟩
theorem results_cells2 {P : Program} {fn : Func} {p q : Tmp} {ty uy : TypeId} (h : fn.results = #[.cell p ty, .cell q uy]) (tmps : Array Value) (w : World) (g k : Nat) (t u : TypeId) (cs ds : Array Value) (fr fs : Nat × Nat) (d e : TypeDesc)
    (hp : tmps.getD p undef = .pointer (some ⟨g, 0, none⟩)) (hg : w.heap[g]? = some (.cells cs t fr)) (hu : P.underlying ty = some d) (hd : (match d with | .struct _ | .array _ _ => true | _ => false) = true) (hi : (P.info? ty).map (·.size) = some cs.size)
    (hq : tmps.getD q undef = .pointer (some ⟨k, 0, none⟩)) (hk : w.heap[k]? = some (.cells ds u fs)) (hv : P.underlying uy = some e) (he : (match e with | .struct _ | .array _ _ => true | _ => false) = true) (hj : (P.info? uy).map (·.size) = some ds.size) :
    (results fn tmps).run P w = .ok (.tuple #[.agg cs, .agg ds]) w := by
  have hp' : tmps[p]?.getD undef = .pointer (some ⟨g, 0, none⟩) := by simpa using hp
  have hq' : tmps[q]?.getD undef = .pointer (some ⟨k, 0, none⟩) := by simpa using hq
  simp [results, h, hp', hq', asAddr, run_loadVar_row w g t ty cs fr d hg hu hd hi, run_loadVar_row w k u uy ds fs e hk hv he hj]
/-- What stands in memory while replies works. -/
structure RpA (V w : World) (rb r1 r2 q1 q2 : Nat) (c1 c2 : Array Value) : Prop where
  bel : Below V.heap.size V w
  hq1 : V.heap.size ≤ q1
  hq2 : V.heap.size ≤ q2
  ne : q1 ≠ q2
  raw : rb < V.heap.size
  lt1 : r1 < V.heap.size
  lt2 : r2 < V.heap.size
  res1 : w.heap[r1]? = some (.cells #[.int .i64 0, .int .i64 0, .int .i64 0, .int .i64 0, .string ⟨#[]⟩, .slice none 0 0, .slice none 0 0] 46 (0, 0))
  res2 : w.heap[r2]? = some (.cells #[.int .i64 0, .int .i64 0, .int .i64 0, .int .i64 0, .string ⟨#[]⟩, .slice none 0 0, .slice none 0 0] 48 (0, 0))
  b1 : w.heap[q1]? = some (.cells c1 46 (0, 0))
  b2 : w.heap[q2]? = some (.cells c2 48 (0, 0))
theorem RpA.grow {V wr wx w6 : World} {rb r1 r2 q1 q2 : Nat} {c1 c2 : Array Value} (h : RpA V wr rb r1 r2 q1 q2 c1 c2) (hb : Below wr.heap.size wr wx) {base : Nat} {e : TypeId} {k : Nat} {v : Value} {n : Nat} {xs : List Value} (hown : wx.ownsRow base e k v n xs) (hg : wx.grownBy w6 v.ownBlock) (h1 : e ≠ 46) (h2 : e ≠ 48) (hbs : V.heap.size ≤ base) : RpA V w6 rb r1 r2 q1 q2 c1 c2 := by
  have key : ∀ (q : Nat) (T : TypeId) (cs : Array Value), wr.heap[q]? = some (.cells cs T (0, 0)) → e ≠ T → w6.heap[q]? = some (.cells cs T (0, 0)) := fun q T cs hq hne => Oct.grown_keeps hg hown ((hb.block _ (Gn.heap_lt hq)).trans hq) hne
  exact ⟨grown_below hg (h.bel.trans (hb.mono h.bel.size)) (fun k hk => Nat.le_trans hbs (Gn.own_block hown k hk)), h.hq1, h.hq2, h.ne, h.raw, h.lt1, h.lt2, key _ _ _ h.res1 h1, key _ _ _ h.res2 h2, key _ _ _ h.b1 h1, key _ _ _ h.b2 h2⟩
theorem RpA.set1 {V wr : World} {rb r1 r2 q1 q2 : Nat} {c1 c2 : Array Value} (h : RpA V wr rb r1 r2 q1 q2 c1 c2) (i : Nat) (x : Value) : RpA V (wr.setCell ⟨q1, i, none⟩ x) rb r1 r2 q1 q2 (c1.setIfInBounds i x) c2 := by
  have k : ∀ r, q1 ≠ r → (wr.setCell ⟨q1, i, none⟩ x).heap[r]? = wr.heap[r]? := fun r hr => Gn.set_keep _ _ _ hr
  exact ⟨h.bel.setCell h.hq1 _, h.hq1, h.hq2, h.ne, h.raw, h.lt1, h.lt2, (k _ (by have := h.lt1; have := h.hq1; omega)).trans h.res1, (k _ (by have := h.lt2; have := h.hq1; omega)).trans h.res2, Gn.heap_set h.b1 i x, (k _ h.ne).trans h.b2⟩
theorem RpA.set2 {V wr : World} {rb r1 r2 q1 q2 : Nat} {c1 c2 : Array Value} (h : RpA V wr rb r1 r2 q1 q2 c1 c2) (i : Nat) (x : Value) : RpA V (wr.setCell ⟨q2, i, none⟩ x) rb r1 r2 q1 q2 c1 (c2.setIfInBounds i x) := by
  have k : ∀ r, q2 ≠ r → (wr.setCell ⟨q2, i, none⟩ x).heap[r]? = wr.heap[r]? := fun r hr => Gn.set_keep _ _ _ hr
  exact ⟨h.bel.setCell h.hq2 _, h.hq1, h.hq2, h.ne, h.raw, h.lt1, h.lt2, (k _ (by have := h.lt1; have := h.hq2; omega)).trans h.res1, (k _ (by have := h.lt2; have := h.hq2; omega)).trans h.res2, (k _ (fun e => h.ne e.symm)).trans h.b1, Gn.heap_set h.b2 i x⟩
theorem own_kept {wx w6 : World} {b0 e0 k0 base : Nat} {v0 v : Value} {n0 n : Nat} {xs0 xs : List Value} {T : TypeId} (ho : wx.ownsRow base T 1 v n xs) (hown : wx.ownsRow b0 e0 k0 v0 n0 xs0) (hg : wx.grownBy w6 v0.ownBlock) (hne : e0 ≠ T) : w6.ownsRow base T 1 v n xs := by
  refine ⟨ho.1, ?_⟩
  rcases ho.2 with h2 | ⟨r, cp, cur, hv, hbr, hhr, hrest⟩
  · exact .inl h2
  · exact .inr ⟨r, cp, cur, hv, hbr, Oct.grown_keeps hg hown hhr hne, hrest⟩
theorem step_append_flt {ops : Array Oper} {o : Oper} {a : Act} {K : Act → World → Prop} {Q : Exit → Act → World → Prop} {E : Prop} (w : World) (hgd : o.guard = none) (s x : Operand)
    (ho : o.op = .call { callee := .builtin .append, args := #[s, x], argTypes := #[44, 44] })
    (base : Nat) (v : Value) (n : Nat) (xs : List Value) (hs : a.eval s = v) (hown : w.ownsRow base 89 1 v n xs) (ad : Addr) (cap f : Nat) (hx : a.eval x = .slice (some ad) 1 cap) (hc : w.cell? ad = some (fltV f)) (hm : n + 1 ≤ 4398046511104) (hb : base ≤ w.heap.size)
    (h : ∀ v' w', w'.ownsRow base 89 1 v' (n + 1) (xs ++ [fltV f]) → w.grownBy w' v.ownBlock → K (a.put o.dst v') w') :
    if Region.wanted o (yielded ops a.tmps) = true then Oper.wp Try.prog o a w K Q else E := by
  have hw : Region.wanted o (yielded ops a.tmps) = true := by simp [Region.wanted, hgd]
  rw [if_pos hw]
  obtain ⟨i0, hi0, hz0, hz1, hz2⟩ := info_parts fltinfo
  obtain ⟨v', w', hr, h2, h3, _, h4⟩ := run_append_own_at (P := Try.prog) w base 44 o.type 89 i0 (.float .f64 0) 1 8 Try.underlying44 hi0 hz0 hz1 hz2 rfl (by decide) v n xs hown ad 1 cap [fltV f] rfl (fun j u hj => by
    obtain rfl : j = 0 := by
      rcases Nat.eq_zero_or_pos j with h0 | h0
      · exact h0
      · rw [List.getElem?_eq_none (by simp; omega)] at hj; cases hj
    injection hj with e
    rw [← e, ← hc]
    obtain ⟨b, off, m⟩ := ad
    cases m <;> rfl) (by simp [Value.oneCell', fltV]) (by unfold maxLen; omega) (by omega) hb
  unfold Oper.wp execOp
  simp only [ho, resolve, invoke, builtin, Sem.run_bind, Sem.run_pure, Result.andThen_ok, List.map_toArray, List.map_cons, List.map_nil, hs, hx, hr]
  exact h v' w' h2 h3
theorem setCells7 {w : World} {b : Nat} {z0 z1 z2 z3 z4 z5 z6 c0 c1 c2 c3 c4 c5 c6 : Value} {T : TypeId} (h : w.heap[b]? = some (.cells #[z0, z1, z2, z3, z4, z5, z6] T (0, 0))) :
    (w.setCells b 0 [c0, c1, c2, c3, c4, c5, c6]).heap[b]? = some (.cells #[c0, c1, c2, c3, c4, c5, c6] T (0, 0)) ∧ (∀ k, b ≠ k → (w.setCells b 0 [c0, c1, c2, c3, c4, c5, c6]).heap[k]? = w.heap[k]?) ∧ (∀ c, c ≤ b → Below c w (w.setCells b 0 [c0, c1, c2, c3, c4, c5, c6])) ∧ (w.setCells b 0 [c0, c1, c2, c3, c4, c5, c6]).heap.size = w.heap.size := by
  have e : w.setCells b 0 [c0, c1, c2, c3, c4, c5, c6] = ((((((w.setCell ⟨b, 0, none⟩ c0).setCell ⟨b, 1, none⟩ c1).setCell ⟨b, 2, none⟩ c2).setCell ⟨b, 3, none⟩ c3).setCell ⟨b, 4, none⟩ c4).setCell ⟨b, 5, none⟩ c5).setCell ⟨b, 6, none⟩ c6 := rfl
  rw [e]
  exact ⟨set7 h _ _ _ _ _ _ _, fun k hk => cell7 (fun e => hk e.symm) _ _ _ _ _ _ _, fun c hc => (((((((Below.refl c w).setCell hc _).setCell hc _).setCell hc _).setCell hc _).setCell hc _).setCell hc _).setCell hc _, by simp [World.setCell]⟩
theorem step_store_box7 {ops : Array Oper} {o : Oper} {a : Act} {K : Act → World → Prop} {Q : Exit → Act → World → Prop} {E : Prop} (w : World) (hgd : o.guard = none) (ty : TypeId) (x y : Operand) (ho : o.op = .store ty x y)
    (b : Nat) (c0 c1 c2 c3 c4 c5 c6 z0 z1 z2 z3 z4 z5 z6 : Value) (T : TypeId) (hx : a.eval x = .pointer (some ⟨b, 0, none⟩)) (hy : a.eval y = .agg #[c0, c1, c2, c3, c4, c5, c6]) (hb : w.heap[b]? = some (.cells #[z0, z1, z2, z3, z4, z5, z6] T (0, 0)))
    (hi : (Try.prog.info? ty).map (·.size) = some 7) (h1 : #[c0, c1, c2, c3, c4, c5, c6].all (·.oneCell') = true)
    (h : ∀ w', w'.heap[b]? = some (.cells #[c0, c1, c2, c3, c4, c5, c6] T (0, 0)) → (∀ k, b ≠ k → w'.heap[k]? = w.heap[k]?) → (∀ c, c ≤ b → Below c w w') → w'.heap.size = w.heap.size → K (a.put o.dst undef) w') :
    if Region.wanted o (yielded ops a.tmps) = true then Oper.wp Try.prog o a w K Q else E := by
  have hw : Region.wanted o (yielded ops a.tmps) = true := by simp [Region.wanted, hgd]
  rw [if_pos hw]
  obtain ⟨q1, q2, q3, q4⟩ := setCells7 (c0 := c0) (c1 := c1) (c2 := c2) (c3 := c3) (c4 := c4) (c5 := c5) (c6 := c6) hb
  refine wp_store_mid (P := Try.prog) ty x y ho b 0 #[c0, c1, c2, c3, c4, c5, c6] hx hy (fun j hj => ⟨?_, Gn.frozen_row hb _⟩) hi h1 (h _ q1 q2 q3 q4)
  have hj : j < 7 := hj
  rw [cell_of_row _ _ (0 + j) _ _ (0, 0) hb]
  rw [Nat.zero_add]
  match j, hj with
  | 0, _ => rfl
  | 1, _ => rfl
  | 2, _ => rfl
  | 3, _ => rfl
  | 4, _ => rfl
  | 5, _ => rfl
  | 6, _ => rfl
def RepliesOut (w : World) (r : Rep) (e : Ending) (w' : World) : Prop := ∃ v u, e = .returned (.tuple #[v, u]) ∧ RepAt w' (repOf r) v ∧ RepAt w' (repOf r) u ∧ Below w.heap.size w w'
set_option maxHeartbeats 16000000 in
theorem replies_any (r : Rep) (v : Value) (w : World) (hv : AnsAt w r v) (hr : ShortR r) :
    Calls Try.prog 17 #[v] w (RepliesOut w r) := by
  obtain ⟨P, hP⟩ : ∃ P, P = RepliesOut w r := ⟨_, rfl⟩
  rw [← hP]
  have HP := Lib.hid hP
  clear hP
  obtain ⟨a, cap, b, cap2, rfl, hs, hf⟩ := hv
  obtain ⟨code, line, col, count, text, texts, marks⟩ := r
  obtain ⟨f0, f1, f2, f3⟩ := hr
  dsimp only at *
  have HEACH := Lib.hid f2
  have HLOW := Lib.hid hf.2.1
  clear f2
  obtain ⟨n, hn⟩ : ∃ n, n = texts.length := ⟨_, rfl⟩
  obtain ⟨m, hm⟩ : ∃ n, n = marks.length := ⟨_, rfl⟩
  rw [← hn] at hs f1 ⊢
  rw [← hm] at hf f3 ⊢
  have HN := Lib.hid hn.symm
  have HM := Lib.hid hm.symm
  obtain ⟨V, hV⟩ : ∃ V, V = ((w.alloc (.cells #[.int .i64 code, .int .i64 line, .int .i64 col, .int .i64 count, .string text, .slice a n cap, .slice b m cap2] 43)).alloc (.cells #[.int .i64 0, .int .i64 0, .int .i64 0, .int .i64 0, .string ⟨#[]⟩, .slice none 0 0, .slice none 0 0] 46)).alloc (.cells #[.int .i64 0, .int .i64 0, .int .i64 0, .int .i64 0, .string ⟨#[]⟩, .slice none 0 0, .slice none 0 0] 48) := ⟨_, rfl⟩
  have hb : Below w.heap.size w V := by rw [hV]; exact (((Below.refl _ w).alloc (Nat.le_refl _) _).alloc (by simp) _).alloc (by simp; omega) _
  have hx : V.heap[w.heap.size]? = some (.cells #[.int .i64 code, .int .i64 line, .int .i64 col, .int .i64 count, .string text, .slice a n cap, .slice b m cap2] 43 (0, 0)) := by rw [hV]; exact (heap_alloc_old _ _ (by simp; omega)).trans ((heap_alloc_old _ _ (by simp)).trans (heap_alloc_new w _))
  have hy : V.heap[w.heap.size + 1]? = some (.cells #[.int .i64 0, .int .i64 0, .int .i64 0, .int .i64 0, .string ⟨#[]⟩, .slice none 0 0, .slice none 0 0] 46 (0, 0)) := by
    rw [hV]; exact (heap_alloc_old _ _ (by simp)).trans (by have := heap_alloc_new (w.alloc (.cells #[.int .i64 code, .int .i64 line, .int .i64 col, .int .i64 count, .string text, .slice a n cap, .slice b m cap2] 43)) (.cells #[.int .i64 0, .int .i64 0, .int .i64 0, .int .i64 0, .string ⟨#[]⟩, .slice none 0 0, .slice none 0 0] 46); simpa using this)
  have hz : V.heap[w.heap.size + 2]? = some (.cells #[.int .i64 0, .int .i64 0, .int .i64 0, .int .i64 0, .string ⟨#[]⟩, .slice none 0 0, .slice none 0 0] 48 (0, 0)) := by
    rw [hV]; have := heap_alloc_new ((w.alloc (.cells #[.int .i64 code, .int .i64 line, .int .i64 col, .int .i64 count, .string text, .slice a n cap, .slice b m cap2] 43)).alloc (.cells #[.int .i64 0, .int .i64 0, .int .i64 0, .int .i64 0, .string ⟨#[]⟩, .slice none 0 0, .slice none 0 0] 46)) (.cells #[.int .i64 0, .int .i64 0, .int .i64 0, .int .i64 0, .string ⟨#[]⟩, .slice none 0 0, .slice none 0 0] 48); simpa using this
  obtain ⟨tx, htx⟩ : ∃ t, t = cutS text 2000 := ⟨_, rfl⟩
  obtain ⟨kt, hkt⟩ : ∃ k, k = min text.size 2000 := ⟨_, rfl⟩
  have htx2 : text.extract 0 kt = tx := by rw [htx, hkt]; rfl
  have hmin : min (text.size : Int) 2000 = (kt : Int) := by omega
  have hk1 : kt ≤ text.size := by omega
  have hk2 : ¬ (text.size : Int) < (kt : Int) := by omega
  have HRAW := Lib.hid hx
  have HB := Lib.hid hb
  have HV := Lib.hid hV
  have HTX := Lib.hid htx
  have HS := Lib.hid (Strs.under hs hb)
  have HF := Lib.hid (U64s.under hf hb)
  have HRES1 := Lib.hid hy
  have HRES2 := Lib.hid hz
  obtain ⟨rb, hrb⟩ : ∃ r, r = w.heap.size := ⟨_, rfl⟩
  obtain ⟨r1, hr1⟩ : ∃ r, r = w.heap.size + 1 := ⟨_, rfl⟩
  obtain ⟨r2, hr2⟩ : ∃ r, r = w.heap.size + 2 := ⟨_, rfl⟩
  rw [← hrb] at HRAW
  rw [← hr1] at HRES1
  rw [← hr2] at HRES2
  have HI1 := Lib.hid hrb
  have HI2 := Lib.hid hr1
  have HI3 := Lib.hid hr2
  have HSS := Lib.hid (fun (w' : World) (b9 : Below V.heap.size V w') => show (fun w' : World => w'.cell? ⟨rb, 0, none⟩ = some (.int .i64 code) ∧ w'.cell? ⟨rb, 1, none⟩ = some (.int .i64 line) ∧ w'.cell? ⟨rb, 2, none⟩ = some (.int .i64 col) ∧ w'.cell? ⟨rb, 3, none⟩ = some (.int .i64 count) ∧ w'.cell? ⟨rb, 4, none⟩ = some (.string text) ∧ w'.cell? ⟨rb, 5, none⟩ = some (.slice a n cap) ∧ w'.cell? ⟨rb, 6, none⟩ = some (.slice b m cap2)) w' from by
    have hx := (b9.block _ (Gn.heap_lt HRAW.out)).trans HRAW.out
    exact ⟨cell_of_row _ _ 0 _ _ (0, 0) hx, cell_of_row _ _ 1 _ _ (0, 0) hx, cell_of_row _ _ 2 _ _ (0, 0) hx, cell_of_row _ _ 3 _ _ (0, 0) hx, cell_of_row _ _ 4 _ _ (0, 0) hx, cell_of_row _ _ 5 _ _ (0, 0) hx, cell_of_row _ _ 6 _ _ (0, 0) hx⟩)
  clear hn hm hV hb hx hy hz htx hkt hs hf hrb hr1 hr2
  go_enter Try.func17, Try.ntmps17
  go_upto_region 1 with fail
  rw [← HV.out, ← HI3.out, ← HI2.out, ← HI1.out]
  refine wp_region_noPanic ?_
  refine wp_region_held_drew (S := (fun w' : World => w'.cell? ⟨rb, 0, none⟩ = some (.int .i64 code) ∧ w'.cell? ⟨rb, 1, none⟩ = some (.int .i64 line) ∧ w'.cell? ⟨rb, 2, none⟩ = some (.int .i64 col) ∧ w'.cell? ⟨rb, 3, none⟩ = some (.int .i64 count) ∧ w'.cell? ⟨rb, 4, none⟩ = some (.string text) ∧ w'.cell? ⟨rb, 5, none⟩ = some (.slice a n cap) ∧ w'.cell? ⟨rb, 6, none⟩ = some (.slice b m cap2))) (by kernel_rfl) ?_ (fun hHeld => ?_)
  · exact HSS.out _ (Gn.below_drew (Below.refl _ _))
  conv in Array.replicate _ false => change #[false, false, false, false, false, false, false, false, false, false, false, false, false, false, false, false, false, false]
  refine wpAnyH_take (i := 0) (v := ?_) rfl (by kernel_rfl) (by kernel_rfl) (by kernel_rfl) (fun _ _ _ h => h) (Or.inl ⟨by rfl, ?_⟩) (by assumption) ?_
  rotate_left
  · intro w hSw
    try dsimp only at hSw
    go_simp
    try with_reducible rfl
  try simp only [Act.put, List.getElem_toArray, List.getElem_cons_zero, List.getElem_cons_succ, List.setIfInBounds_toArray, List.set_cons_zero, List.set_cons_succ]
  refine wpAnyH_take (i := 1) (v := ?_) rfl (by kernel_rfl) (by kernel_rfl) (by kernel_rfl) (fun _ _ _ h => h) (Or.inl ⟨by rfl, ?_⟩) (by assumption) ?_
  rotate_left
  · intro w hSw
    try dsimp only at hSw
    go_simp
    try with_reducible rfl
  try simp only [Act.put, List.getElem_toArray, List.getElem_cons_zero, List.getElem_cons_succ, List.setIfInBounds_toArray, List.set_cons_zero, List.set_cons_succ]
  refine wpAnyH_take (i := 2) (v := ?_) rfl (by kernel_rfl) (by kernel_rfl) (by kernel_rfl) (fun _ _ _ h => h) (Or.inl ⟨by rfl, ?_⟩) (by assumption) ?_
  rotate_left
  · intro w hSw
    try dsimp only at hSw
    go_simp
    try with_reducible rfl
  try simp only [Act.put, List.getElem_toArray, List.getElem_cons_zero, List.getElem_cons_succ, List.setIfInBounds_toArray, List.set_cons_zero, List.set_cons_succ]
  refine wpAnyH_take (i := 3) (v := ?_) rfl (by kernel_rfl) (by kernel_rfl) (by kernel_rfl) (fun _ _ _ h => h) (Or.inl ⟨by rfl, ?_⟩) (by assumption) ?_
  rotate_left
  · intro w hSw
    try dsimp only at hSw
    go_simp
    try with_reducible rfl
  try simp only [Act.put, List.getElem_toArray, List.getElem_cons_zero, List.getElem_cons_succ, List.setIfInBounds_toArray, List.set_cons_zero, List.set_cons_succ]
  refine wpAnyH_take (i := 4) (v := ?_) rfl (by kernel_rfl) (by kernel_rfl) (by kernel_rfl) (fun _ _ _ h => h) (Or.inl ⟨by rfl, ?_⟩) (by assumption) ?_
  rotate_left
  · intro w hSw
    try dsimp only at hSw
    go_simp
    try with_reducible rfl
  try simp only [Act.put, List.getElem_toArray, List.getElem_cons_zero, List.getElem_cons_succ, List.setIfInBounds_toArray, List.set_cons_zero, List.set_cons_succ]
  refine wpAnyH_take (i := 5) (v := ?_) rfl (by kernel_rfl) (by kernel_rfl) (by kernel_rfl) (fun _ _ _ h => h) (Or.inl ⟨by rfl, ?_⟩) (by assumption) ?_
  rotate_left
  · intro w hSw
    try dsimp only at hSw
    go_simp
    try with_reducible rfl
  try simp only [Act.put, List.getElem_toArray, List.getElem_cons_zero, List.getElem_cons_succ, List.setIfInBounds_toArray, List.set_cons_zero, List.set_cons_succ]
  refine wpAnyH_take (i := 6) (v := ?_) rfl (by kernel_rfl) (by kernel_rfl) (by kernel_rfl) (fun _ _ _ h => h) (Or.inl ⟨by rfl, ?_⟩) (by assumption) ?_
  rotate_left
  · intro w hSw
    try dsimp only at hSw
    go_simp
    try with_reducible rfl
  try simp only [Act.put, List.getElem_toArray, List.getElem_cons_zero, List.getElem_cons_succ, List.setIfInBounds_toArray, List.set_cons_zero, List.set_cons_succ]
  refine wpAnyH_take (i := 7) (v := ?_) rfl (by kernel_rfl) (by kernel_rfl) (by kernel_rfl) (fun _ _ _ h => h) (Or.inl ⟨by rfl, ?_⟩) (by assumption) ?_
  rotate_left
  · intro w hSw
    try dsimp only at hSw
    go_simp
    try with_reducible rfl
  try simp only [Act.put, List.getElem_toArray, List.getElem_cons_zero, List.getElem_cons_succ, List.setIfInBounds_toArray, List.set_cons_zero, List.set_cons_succ]
  refine wpAnyH_take (i := 8) (v := ?_) rfl (by kernel_rfl) (by kernel_rfl) (by kernel_rfl) (fun _ _ _ h => h) (Or.inl ⟨by rfl, ?_⟩) (by assumption) ?_
  rotate_left
  · intro w hSw
    try dsimp only at hSw
    go_simp
    try with_reducible rfl
  try simp only [Act.put, List.getElem_toArray, List.getElem_cons_zero, List.getElem_cons_succ, List.setIfInBounds_toArray, List.set_cons_zero, List.set_cons_succ]
  refine wpAnyH_take (i := 9) (v := ?_) rfl (by kernel_rfl) (by kernel_rfl) (by kernel_rfl) (fun _ _ _ h => h) (Or.inl ⟨by rfl, ?_⟩) (by assumption) ?_
  rotate_left
  · intro w hSw
    try dsimp only at hSw
    go_simp
    try with_reducible rfl
  try simp only [Act.put, List.getElem_toArray, List.getElem_cons_zero, List.getElem_cons_succ, List.setIfInBounds_toArray, List.set_cons_zero, List.set_cons_succ]
  refine wpAnyH_take (i := 10) (v := ?_) rfl (by kernel_rfl) (by kernel_rfl) (by kernel_rfl) (fun _ _ _ h => h) (Or.inl ⟨by rfl, ?_⟩) (by assumption) ?_
  rotate_left
  · intro w hSw
    try dsimp only at hSw
    go_simp
    try with_reducible rfl
  try simp only [Act.put, List.getElem_toArray, List.getElem_cons_zero, List.getElem_cons_succ, List.setIfInBounds_toArray, List.set_cons_zero, List.set_cons_succ]
  refine wpAnyH_take (i := 11) (v := ?_) rfl (by kernel_rfl) (by kernel_rfl) (by kernel_rfl) (fun _ _ _ h => h) (Or.inl ⟨by rfl, ?_⟩) (by assumption) ?_
  rotate_left
  · intro w hSw
    try dsimp only at hSw
    go_simp
    try with_reducible rfl
  try simp only [Act.put, List.getElem_toArray, List.getElem_cons_zero, List.getElem_cons_succ, List.setIfInBounds_toArray, List.set_cons_zero, List.set_cons_succ]
  refine wpAnyH_take (i := 12) (v := ?_) rfl (by kernel_rfl) (by kernel_rfl) (by kernel_rfl) (fun _ _ _ h => h) (Or.inl ⟨by rfl, ?_⟩) (by assumption) ?_
  rotate_left
  · intro w hSw
    try dsimp only at hSw
    go_simp
    try with_reducible rfl
  try simp only [Act.put, List.getElem_toArray, List.getElem_cons_zero, List.getElem_cons_succ, List.setIfInBounds_toArray, List.set_cons_zero, List.set_cons_succ]
  refine wpAnyH_take (i := 13) (v := ?_) rfl (by kernel_rfl) (by kernel_rfl) (by kernel_rfl) (fun _ _ _ h => h) (Or.inl ⟨by rfl, ?_⟩) (by assumption) ?_
  rotate_left
  · intro w hSw
    try dsimp only at hSw
    go_simp
    try with_reducible rfl
  try simp only [Act.put, List.getElem_toArray, List.getElem_cons_zero, List.getElem_cons_succ, List.setIfInBounds_toArray, List.set_cons_zero, List.set_cons_succ]
  refine wpAnyH_take (i := 14) (v := ?_) rfl (by kernel_rfl) (by kernel_rfl) (by kernel_rfl) (fun _ _ _ h => h) (Or.inl ⟨by rfl, ?_⟩) (by assumption) ?_
  rotate_left
  · intro w hSw
    try dsimp only at hSw
    go_simp
    try with_reducible rfl
  try simp only [Act.put, List.getElem_toArray, List.getElem_cons_zero, List.getElem_cons_succ, List.setIfInBounds_toArray, List.set_cons_zero, List.set_cons_succ]
  refine wpAnyH_take (i := 15) (v := ?_) rfl (by kernel_rfl) (by kernel_rfl) (by kernel_rfl) (fun _ _ _ h => h) (Or.inl ⟨by rfl, ?_⟩) (by assumption) ?_
  rotate_left
  · intro w hSw
    try dsimp only at hSw
    go_simp
    try with_reducible rfl
  try simp only [Act.put, List.getElem_toArray, List.getElem_cons_zero, List.getElem_cons_succ, List.setIfInBounds_toArray, List.set_cons_zero, List.set_cons_succ]
  refine wpAnyH_ready (rs := [16]) (by kernel_rfl) (by simp) ?_
  refine AllReadyH.cons rfl (fun K hK => ?_) AllReadyH.nil
  go_simp
  refine hK.out _ _ (HSS.out _ ((Gn.below_drew (Below.refl _ _)).alloc (Nat.le_refl _) _)) (fun hHeld => ?_)
  clear hK K
  try simp only [Act.put, List.getElem_toArray, List.getElem_cons_zero, List.getElem_cons_succ, List.setIfInBounds_toArray, List.set_cons_zero, List.set_cons_succ]
  refine wpAnyH_ready (rs := [17]) (by kernel_rfl) (by simp) ?_
  refine AllReadyH.cons rfl (fun K hK => ?_) AllReadyH.nil
  go_simp
  refine hK.out _ _ (HSS.out _ ((Gn.below_drew (Below.refl _ _)).alloc (Nat.le_refl _) _)) (fun hHeld => ?_)
  clear hK K
  try simp only [Act.put, List.getElem_toArray, List.getElem_cons_zero, List.getElem_cons_succ, List.setIfInBounds_toArray, List.set_cons_zero, List.set_cons_succ]
  refine wpAnyH_done (by kernel_rfl) ?_ _
  refine NoPanic.normal ?_
  obtain ⟨U, hU⟩ : ∃ U, U = (V.alloc (.cells #[.int .i64 code, .int .i64 line, .int .i64 col, .int .i64 count, .string tx, .slice none 0 0, .slice none 0 0] 46)).drew := ⟨_, rfl⟩
  have hbU : Below V.heap.size V U := by rw [hU]; exact Gn.below_drew ((Below.refl _ _).alloc (Nat.le_refl _) _)
  have hxU : U.heap[V.heap.size]? = some (.cells #[.int .i64 code, .int .i64 line, .int .i64 col, .int .i64 count, .string tx, .slice none 0 0, .slice none 0 0] 46 (0, 0)) := by rw [hU]; exact heap_alloc_new V _
  obtain ⟨q1, hq1⟩ : ∃ q, q = V.heap.size := ⟨_, rfl⟩
  rw [← hq1] at hxU
  have HU := Lib.hid hU
  have HQ1 := Lib.hid hq1
  have HBU := Lib.hid hbU
  have HXU := Lib.hid hxU
  clear hU hbU hxU hq1
  rw [← HU.out, ← HQ1.out]
  have hrw := (HBU.out.block _ (Gn.heap_lt HRAW.out)).trans HRAW.out
  have x0 := cell_of_row _ _ 0 _ _ (0, 0) hrw
  have x1 := cell_of_row _ _ 1 _ _ (0, 0) hrw
  have x2 := cell_of_row _ _ 2 _ _ (0, 0) hrw
  have x3 := cell_of_row _ _ 3 _ _ (0, 0) hrw
  have x4 := cell_of_row _ _ 4 _ _ (0, 0) hrw
  have x5 := cell_of_row _ _ 5 _ _ (0, 0) hrw
  have x6 := cell_of_row _ _ 6 _ _ (0, 0) hrw
  have xq := cell_of_row _ _ 4 _ _ (0, 0) HXU.out
  obtain ⟨W0, hW0⟩ : ∃ W, W = U.alloc (.cells #[.int .i64 code, .int .i64 line, .int .i64 col, .int .i64 count, .string tx, .slice none 0 0, .slice none 0 0] 48) := ⟨_, rfl⟩
  have hbW : Below U.heap.size U W0 := by rw [hW0]; exact (Below.refl _ _).alloc (Nat.le_refl _) _
  have hxW : W0.heap[U.heap.size]? = some (.cells #[.int .i64 code, .int .i64 line, .int .i64 col, .int .i64 count, .string tx, .slice none 0 0, .slice none 0 0] 48 (0, 0)) := by rw [hW0]; exact heap_alloc_new U _
  obtain ⟨q2, hq2⟩ : ∃ q, q = U.heap.size := ⟨_, rfl⟩
  rw [← hq2] at hxW
  have hlt1 : q1 < U.heap.size := Gn.heap_lt HXU.out
  have HST := Lib.hid (show RpA V W0 rb r1 r2 q1 q2 #[.int .i64 code, .int .i64 line, .int .i64 col, .int .i64 count, .string tx, .slice none 0 0, .slice none 0 0] #[.int .i64 code, .int .i64 line, .int .i64 col, .int .i64 count, .string tx, .slice none 0 0, .slice none 0 0] from ⟨HBU.out.trans (hbW.mono HBU.out.size), by rw [HQ1.out]; exact Nat.le_refl _, by rw [hq2]; exact HBU.out.size, by rw [hq2]; omega, Gn.heap_lt HRAW.out, Gn.heap_lt HRES1.out, Gn.heap_lt HRES2.out, ((HBU.out.trans (hbW.mono HBU.out.size)).block _ (Gn.heap_lt HRES1.out)).trans HRES1.out, ((HBU.out.trans (hbW.mono HBU.out.size)).block _ (Gn.heap_lt HRES2.out)).trans HRES2.out, (hbW.block _ hlt1).trans HXU.out, hxW⟩)
  have HW0 := Lib.hid hW0
  have HQ2 := Lib.hid hq2
  have hxr := (HST.out.bel.block _ (Gn.heap_lt HRAW.out)).trans HRAW.out
  have HQLT := Lib.hid (show q1 < W0.heap.size ∧ q2 < W0.heap.size from ⟨Gn.heap_lt HST.out.b1, Gn.heap_lt HST.out.b2⟩)
  clear hrw hW0 hbW hxW hq2 hlt1
  go_upto_region 3 with fail
  rw [← HW0.out, ← HQ2.out]
  clear xq x0 x1 x2 x3 x4 x5 x6
  have w5 := cell_of_row _ _ 5 _ _ (0, 0) hxr
  clear hxr
  go_wp2_with fail
  go_loopw [6] (fun i wr => ∃ (k : Nat) (A : Option Addr) (c : Nat), k ≤ n ∧ k ≤ 50 ∧ i = .int .i64 k ∧ RpA V wr rb r1 r2 q1 q2 #[.int .i64 code, .int .i64 line, .int .i64 col, .int .i64 count, .string tx, .slice A k c, .slice none 0 0] #[.int .i64 code, .int .i64 line, .int .i64 col, .int .i64 count, .string tx, .slice none 0 0, .slice none 0 0] ∧ wr.ownsRow W0.heap.size 9 1 (.slice A k c) k (((texts.take k).map fun s => cutS s 500).map Value.string) ∧ W0.heap.size ≤ wr.heap.size) (fun i _ => 50 - (intOf i).toNat)
  case atStart => exact ⟨0, none, 0, Nat.zero_le _, by omega, rfl, HST.out, by simpa using World.ownsRow_nil _ _ _ _, Nat.le_refl _⟩
  case round =>
    obtain ⟨k, A, c, hkn, hk50, rfl, hst, hown, hsz⟩ := hrel
    have HA := Lib.hid hst
    have HO := Lib.hid hown
    have HSZ := Lib.hid hsz
    have hxr := (HA.out.bel.block _ (Gn.heap_lt HRAW.out)).trans HRAW.out
    have HXR := Lib.hid hxr
    clear hst hown hsz w5
    have w5 := cell_of_row _ _ 5 _ _ (0, 0) hxr
    clear hxr
    by_cases hc1 : k < n
    · have hc1' : (k : Int) < (n : Int) := by omega
      by_cases hc2 : k < 50
      · have hc2' : (k : Int) < 50 := by omega
        have hks : k < texts.length := by rw [HN.out]; exact hc1
        obtain ⟨b0, off, rfl, hbb, hc⟩ := Strs.get HS.out k hc1
        obtain ⟨x, hx⟩ : ∃ x, x = texts[k] := ⟨_, rfl⟩
        rw [← hx] at hc
        have hxsz : x.size ≤ 9223372036854775807 := by rw [hx]; exact HEACH.out _ (List.getElem_mem _)
        obtain ⟨cx, hcx⟩ : ∃ t, t = cutS x 500 := ⟨_, rfl⟩
        obtain ⟨kx, hkx⟩ : ∃ k, k = min x.size 500 := ⟨_, rfl⟩
        have hcx2 : x.extract 0 kx = cx := by rw [hcx, hkx]; rfl
        have hminx : min (x.size : Int) 500 = (kx : Int) := by omega
        have hkx1 : kx ≤ x.size := by omega
        have hkx2 : ¬ (x.size : Int) < (kx : Int) := by omega
        have HNX := Lib.hid (show (((texts.take (k + 1)).map fun s => cutS s 500).map Value.string) = (((texts.take k).map fun s => cutS s 500).map Value.string) ++ [cx].map Value.string by
          rw [List.take_succ_eq_append_getElem hks, List.map_append, List.map_append, hcx, hx]; rfl)
        have HSX := Lib.hid (fun (w' : World) (b9 : Below V.heap.size V w') => show (fun w' : World => w'.cell? ⟨rb, 5, none⟩ = some (.slice (some ⟨b0, off, none⟩) n cap) ∧ w'.cell? ⟨b0, off + k, none⟩ = some (.string x)) w' from by
          have hx := (b9.block _ (Gn.heap_lt HRAW.out)).trans HRAW.out
          exact ⟨cell_of_row _ _ 5 _ _ (0, 0) hx, (b9.cell (p := ⟨b0, off + k, none⟩) hbb).trans hc⟩)
        have c1 := cell_of_row _ _ 5 _ _ (0, 0) HA.out.b1
        have c2 := cell_of_row _ _ 5 _ _ (0, 0) ((((Below.refl wr.heap.size wr).alloc (Nat.le_refl _) (.cells #[.string cx] 9)).block _ (Gn.heap_lt HA.out.b1)).trans HA.out.b1)
        have HBA := Lib.hid ((Gn.below_drew HA.out.bel).alloc HA.out.bel.size (.cells #[.string cx] 9))
        clear hx hcx hkx hc
        go_upto_region 6 with fail
        clear w5
        refine wp_region_noPanic ?_
        refine wp_region_held_drew (S := (fun w' : World => w'.cell? ⟨rb, 5, none⟩ = some (.slice (some ⟨b0, off, none⟩) n cap) ∧ w'.cell? ⟨b0, off + k, none⟩ = some (.string x))) (by kernel_rfl) ?_ (fun hHeld => ?_)
        · exact HSX.out _ (Gn.below_drew HA.out.bel)
        conv in Array.replicate _ false => change #[false, false, false, false, false, false, false, false, false, false, false, false, false, false, false, false, false, false, false]
        refine wpAnyH_take (i := 0) (v := ?_) rfl (by kernel_rfl) (by kernel_rfl) (by kernel_rfl) (fun _ _ _ h => h) (Or.inl ⟨by rfl, ?_⟩) (by assumption) ?_
        rotate_left
        · intro w hSw
          try dsimp only at hSw
          go_simp
          try with_reducible rfl
        try simp only [Act.put, List.getElem_toArray, List.getElem_cons_zero, List.getElem_cons_succ, List.setIfInBounds_toArray, List.set_cons_zero, List.set_cons_succ]
        refine wpAnyH_take (i := 2) (v := ?_) rfl (by kernel_rfl) (by kernel_rfl) (by kernel_rfl) (fun _ _ _ h => h) (Or.inl ⟨by rfl, ?_⟩) (by assumption) ?_
        rotate_left
        · intro w hSw
          try dsimp only at hSw
          go_simp
          try with_reducible rfl
        try simp only [Act.put, List.getElem_toArray, List.getElem_cons_zero, List.getElem_cons_succ, List.setIfInBounds_toArray, List.set_cons_zero, List.set_cons_succ]
        refine wpAnyH_take (i := 3) (v := ?_) rfl (by kernel_rfl) (by kernel_rfl) (by kernel_rfl) (fun _ _ _ h => h) (Or.inl ⟨by rfl, ?_⟩) (by assumption) ?_
        rotate_left
        · intro w hSw
          try dsimp only at hSw
          go_simp
          try with_reducible rfl
        try simp only [Act.put, List.getElem_toArray, List.getElem_cons_zero, List.getElem_cons_succ, List.setIfInBounds_toArray, List.set_cons_zero, List.set_cons_succ]
        refine wpAnyH_take (i := 4) (v := ?_) rfl (by kernel_rfl) (by kernel_rfl) (by kernel_rfl) (fun _ _ _ h => h) (Or.inl ⟨by rfl, ?_⟩) (by assumption) ?_
        rotate_left
        · intro w hSw
          try dsimp only at hSw
          go_simp
          try with_reducible rfl
        try simp only [Act.put, List.getElem_toArray, List.getElem_cons_zero, List.getElem_cons_succ, List.setIfInBounds_toArray, List.set_cons_zero, List.set_cons_succ]
        refine wpAnyH_take (i := 5) (v := ?_) rfl (by kernel_rfl) (by kernel_rfl) (by kernel_rfl) (fun _ _ _ h => h) (Or.inl ⟨by rfl, ?_⟩) (by assumption) ?_
        rotate_left
        · intro w hSw
          try dsimp only at hSw
          go_simp
          try with_reducible rfl
        try simp only [Act.put, List.getElem_toArray, List.getElem_cons_zero, List.getElem_cons_succ, List.setIfInBounds_toArray, List.set_cons_zero, List.set_cons_succ]
        refine wpAnyH_take (i := 6) (v := ?_) rfl (by kernel_rfl) (by kernel_rfl) (by kernel_rfl) (fun _ _ _ h => h) (Or.inl ⟨by rfl, ?_⟩) (by assumption) ?_
        rotate_left
        · intro w hSw
          try dsimp only at hSw
          go_simp
          try with_reducible rfl
        try simp only [Act.put, List.getElem_toArray, List.getElem_cons_zero, List.getElem_cons_succ, List.setIfInBounds_toArray, List.set_cons_zero, List.set_cons_succ]
        refine wpAnyH_take (i := 7) (v := ?_) rfl (by kernel_rfl) (by kernel_rfl) (by kernel_rfl) (fun _ _ _ h => h) (Or.inl ⟨by rfl, ?_⟩) (by assumption) ?_
        rotate_left
        · intro w hSw
          try dsimp only at hSw
          go_simp
          try with_reducible rfl
        try simp only [Act.put, List.getElem_toArray, List.getElem_cons_zero, List.getElem_cons_succ, List.setIfInBounds_toArray, List.set_cons_zero, List.set_cons_succ]
        refine wpAnyH_take (i := 8) (v := ?_) rfl (by kernel_rfl) (by kernel_rfl) (by kernel_rfl) (fun _ _ _ h => h) (Or.inl ⟨by rfl, ?_⟩) (by assumption) ?_
        rotate_left
        · intro w hSw
          try dsimp only at hSw
          go_simp
          try with_reducible rfl
        try simp only [Act.put, List.getElem_toArray, List.getElem_cons_zero, List.getElem_cons_succ, List.setIfInBounds_toArray, List.set_cons_zero, List.set_cons_succ]
        refine wpAnyH_take (i := 9) (v := ?_) rfl (by kernel_rfl) (by kernel_rfl) (by kernel_rfl) (fun _ _ _ h => h) (Or.inl ⟨by rfl, ?_⟩) (by assumption) ?_
        rotate_left
        · intro w hSw
          try dsimp only at hSw
          go_simp
          try with_reducible rfl
        try simp only [Act.put, List.getElem_toArray, List.getElem_cons_zero, List.getElem_cons_succ, List.setIfInBounds_toArray, List.set_cons_zero, List.set_cons_succ]
        refine wpAnyH_take (i := 10) (v := ?_) rfl (by kernel_rfl) (by kernel_rfl) (by kernel_rfl) (fun _ _ _ h => h) (Or.inl ⟨by rfl, ?_⟩) (by assumption) ?_
        rotate_left
        · intro w hSw
          try dsimp only at hSw
          go_simp
          try with_reducible rfl
        try simp only [Act.put, List.getElem_toArray, List.getElem_cons_zero, List.getElem_cons_succ, List.setIfInBounds_toArray, List.set_cons_zero, List.set_cons_succ]
        refine wpAnyH_take (i := 11) (v := ?_) rfl (by kernel_rfl) (by kernel_rfl) (by kernel_rfl) (fun _ _ _ h => h) (Or.inl ⟨by rfl, ?_⟩) (by assumption) ?_
        rotate_left
        · intro w hSw
          try dsimp only at hSw
          go_simp
          try with_reducible rfl
        try simp only [Act.put, List.getElem_toArray, List.getElem_cons_zero, List.getElem_cons_succ, List.setIfInBounds_toArray, List.set_cons_zero, List.set_cons_succ]
        refine wpAnyH_take (i := 12) (v := ?_) rfl (by kernel_rfl) (by kernel_rfl) (by kernel_rfl) (fun _ _ _ h => h) (Or.inl ⟨by rfl, ?_⟩) (by assumption) ?_
        rotate_left
        · intro w hSw
          try dsimp only at hSw
          go_simp
          try with_reducible rfl
        try simp only [Act.put, List.getElem_toArray, List.getElem_cons_zero, List.getElem_cons_succ, List.setIfInBounds_toArray, List.set_cons_zero, List.set_cons_succ]
        refine wpAnyH_take (i := 13) (v := ?_) rfl (by kernel_rfl) (by kernel_rfl) (by kernel_rfl) (fun _ _ _ h => h) (Or.inl ⟨by rfl, ?_⟩) (by assumption) ?_
        rotate_left
        · intro w hSw
          try dsimp only at hSw
          go_simp
          try with_reducible rfl
        try simp only [Act.put, List.getElem_toArray, List.getElem_cons_zero, List.getElem_cons_succ, List.setIfInBounds_toArray, List.set_cons_zero, List.set_cons_succ]
        refine wpAnyH_take (i := 14) (v := ?_) rfl (by kernel_rfl) (by kernel_rfl) (by kernel_rfl) (fun _ _ _ h => h) (Or.inl ⟨by rfl, ?_⟩) (by assumption) ?_
        rotate_left
        · intro w hSw
          try dsimp only at hSw
          go_simp
          try with_reducible rfl
        try simp only [Act.put, List.getElem_toArray, List.getElem_cons_zero, List.getElem_cons_succ, List.setIfInBounds_toArray, List.set_cons_zero, List.set_cons_succ]
        refine wpAnyH_ready (rs := [1, 15]) (by kernel_rfl) (by simp) ?_
        refine AllReadyH.cons rfl (fun K hK => ?_) ?_
        · go_simp
          refine hK.out _ _ (HSX.out _ (Gn.below_drew HA.out.bel)) (fun hHeld => ?_)
          clear hK K
          try simp only [Act.put, List.getElem_toArray, List.getElem_cons_zero, List.getElem_cons_succ, List.setIfInBounds_toArray, List.set_cons_zero, List.set_cons_succ]
          refine wpAnyH_ready (rs := [15]) (by kernel_rfl) (by simp) ?_
          refine AllReadyH.cons rfl (fun K hK => ?_) AllReadyH.nil
          go_simp
          refine hK.out _ _ (HSX.out _ HBA.out) (fun hHeld => ?_)
          clear hK K
          try simp only [Act.put, List.getElem_toArray, List.getElem_cons_zero, List.getElem_cons_succ, List.setIfInBounds_toArray, List.set_cons_zero, List.set_cons_succ]
          refine wpAnyH_ready (rs := [16]) (by kernel_rfl) (by simp) ?_
          refine AllReadyH.cons rfl (fun K hK => ?_) AllReadyH.nil
          refine step_append_word _ rfl _ _ rfl W0.heap.size _ k _ rfl (HO.out.alloc (.cells #[.string cx] 9)) (some ⟨wr.heap.size, 0, none⟩) 1 1 [cx] rfl ⟨rfl, fun _ => ⟨wr.heap.size, 0, rfl, by simp, fun i hi => (by obtain rfl : i = 0 := (by omega); exact cell_of_row _ _ 0 _ _ (0, 0) (heap_alloc_new wr _))⟩⟩ (by omega) (by have := HSZ.out; simp; omega) ?_
          intro v5 w6 ho6 hg6
          obtain ⟨A6, c6, rfl⟩ := Gn.slice_of ho6
          have hFa := HO.out.alloc (.cells #[.string cx] 9)
          have HA6 := Lib.hid (HA.out.grow ((Below.refl wr.heap.size wr).alloc (Nat.le_refl _) (.cells #[.string cx] 9)) (v := .slice A k c) hFa (show World.grownBy (wr.alloc (.cells #[.string cx] 9)) w6 (Value.slice A k c).ownBlock from (by obtain ⟨a1, a2, a3, a4, a5⟩ := hg6; exact ⟨a1, a2, a3, a4, a5⟩)) (by decide) (by decide) (by have := HST.out.bel.size; exact this))
          have HO6 := Lib.hid ho6
          have hsz6 : W0.heap.size ≤ w6.heap.size := by obtain ⟨_, _, _, h4, _⟩ := hg6; have := HSZ.out; exact Nat.le_trans (Nat.le_trans this (by simp)) h4
          have HA7 := Lib.hid (HA6.out.set1 5 (.slice A6 (k + 1) c6))
          have HO7 := Lib.hid (own_far HO6.out HA6.out.b1 (by decide) (fun r hr => Gn.set_keep (k := r) w6 5 (.slice A6 (k + 1) c6) (fun e => hr e.symm)))
          have s5 := cell_of_row _ _ 5 _ _ (0, 0) HA6.out.b1
          have g5 := Gn.frozen_row HA6.out.b1 5
          obtain ⟨w7, hw7⟩ : ∃ w, w = w6.setCell ⟨q1, 5, none⟩ (.slice A6 (k + 1) c6) := ⟨_, rfl⟩
          rw [← hw7] at HA7 HO7
          have hsz7 : W0.heap.size ≤ w7.heap.size := by rw [hw7]; simpa [World.setCell] using hsz6
          have HW7 := Lib.hid hw7
          have HS7 := Lib.hid hsz7
          clear hFa ho6 hg6 hw7 hsz6 hsz7
          refine hK.out _ _ (HSX.out _ HA6.out.bel) (fun hHeld => ?_)
          clear hK K
          try simp only [Act.put, List.getElem_toArray, List.getElem_cons_zero, List.getElem_cons_succ, List.setIfInBounds_toArray, List.set_cons_zero, List.set_cons_succ]
          refine wpAnyH_take (i := 17) (v := ?_) rfl (by kernel_rfl) (by kernel_rfl) (by kernel_rfl) (fun _ _ _ h => h) (Or.inl ⟨by rfl, ?_⟩) (by assumption) ?_
          rotate_left
          · intro w hSw
            try dsimp only at hSw
            go_simp
            try with_reducible rfl
          try simp only [Act.put, List.getElem_toArray, List.getElem_cons_zero, List.getElem_cons_succ, List.setIfInBounds_toArray, List.set_cons_zero, List.set_cons_succ]
          refine wpAnyH_ready (rs := [18]) (by kernel_rfl) (by simp) ?_
          refine AllReadyH.cons rfl (fun K hK => ?_) AllReadyH.nil
          go_simp
          rw [← HW7.out]
          refine hK.out _ _ (HSX.out _ HA7.out.bel) (fun hHeld => ?_)
          clear hK K
          try simp only [Act.put, List.getElem_toArray, List.getElem_cons_zero, List.getElem_cons_succ, List.setIfInBounds_toArray, List.set_cons_zero, List.set_cons_succ]
          refine wpAnyH_done (by kernel_rfl) ?_ _
          refine NoPanic.normal ?_
          go_wp2_with fail
          exact ⟨⟨k + 1, A6, c6, by omega, by omega, by go_num, HA7.out, by rw [HNX.out]; exact HO7.out, HS7.out⟩, by simp [intOf]; omega⟩
        refine AllReadyH.cons rfl (fun K hK => ?_) AllReadyH.nil
        · go_simp
          refine hK.out _ _ (HSX.out _ HBA.out) (fun hHeld => ?_)
          clear hK K
          try simp only [Act.put, List.getElem_toArray, List.getElem_cons_zero, List.getElem_cons_succ, List.setIfInBounds_toArray, List.set_cons_zero, List.set_cons_succ]
          refine wpAnyH_ready (rs := [1]) (by kernel_rfl) (by simp) ?_
          refine AllReadyH.cons rfl (fun K hK => ?_) AllReadyH.nil
          go_simp
          refine hK.out _ _ (HSX.out _ HBA.out) (fun hHeld => ?_)
          clear hK K
          try simp only [Act.put, List.getElem_toArray, List.getElem_cons_zero, List.getElem_cons_succ, List.setIfInBounds_toArray, List.set_cons_zero, List.set_cons_succ]
          refine wpAnyH_ready (rs := [16]) (by kernel_rfl) (by simp) ?_
          refine AllReadyH.cons rfl (fun K hK => ?_) AllReadyH.nil
          refine step_append_word _ rfl _ _ rfl W0.heap.size _ k _ rfl (HO.out.alloc (.cells #[.string cx] 9)) (some ⟨wr.heap.size, 0, none⟩) 1 1 [cx] rfl ⟨rfl, fun _ => ⟨wr.heap.size, 0, rfl, by simp, fun i hi => (by obtain rfl : i = 0 := (by omega); exact cell_of_row _ _ 0 _ _ (0, 0) (heap_alloc_new wr _))⟩⟩ (by omega) (by have := HSZ.out; simp; omega) ?_
          intro v5 w6 ho6 hg6
          obtain ⟨A6, c6, rfl⟩ := Gn.slice_of ho6
          have hFa := HO.out.alloc (.cells #[.string cx] 9)
          have HA6 := Lib.hid (HA.out.grow ((Below.refl wr.heap.size wr).alloc (Nat.le_refl _) (.cells #[.string cx] 9)) (v := .slice A k c) hFa (show World.grownBy (wr.alloc (.cells #[.string cx] 9)) w6 (Value.slice A k c).ownBlock from (by obtain ⟨a1, a2, a3, a4, a5⟩ := hg6; exact ⟨a1, a2, a3, a4, a5⟩)) (by decide) (by decide) (by have := HST.out.bel.size; exact this))
          have HO6 := Lib.hid ho6
          have hsz6 : W0.heap.size ≤ w6.heap.size := by obtain ⟨_, _, _, h4, _⟩ := hg6; have := HSZ.out; exact Nat.le_trans (Nat.le_trans this (by simp)) h4
          have HA7 := Lib.hid (HA6.out.set1 5 (.slice A6 (k + 1) c6))
          have HO7 := Lib.hid (own_far HO6.out HA6.out.b1 (by decide) (fun r hr => Gn.set_keep (k := r) w6 5 (.slice A6 (k + 1) c6) (fun e => hr e.symm)))
          have s5 := cell_of_row _ _ 5 _ _ (0, 0) HA6.out.b1
          have g5 := Gn.frozen_row HA6.out.b1 5
          obtain ⟨w7, hw7⟩ : ∃ w, w = w6.setCell ⟨q1, 5, none⟩ (.slice A6 (k + 1) c6) := ⟨_, rfl⟩
          rw [← hw7] at HA7 HO7
          have hsz7 : W0.heap.size ≤ w7.heap.size := by rw [hw7]; simpa [World.setCell] using hsz6
          have HW7 := Lib.hid hw7
          have HS7 := Lib.hid hsz7
          clear hFa ho6 hg6 hw7 hsz6 hsz7
          refine hK.out _ _ (HSX.out _ HA6.out.bel) (fun hHeld => ?_)
          clear hK K
          try simp only [Act.put, List.getElem_toArray, List.getElem_cons_zero, List.getElem_cons_succ, List.setIfInBounds_toArray, List.set_cons_zero, List.set_cons_succ]
          refine wpAnyH_take (i := 17) (v := ?_) rfl (by kernel_rfl) (by kernel_rfl) (by kernel_rfl) (fun _ _ _ h => h) (Or.inl ⟨by rfl, ?_⟩) (by assumption) ?_
          rotate_left
          · intro w hSw
            try dsimp only at hSw
            go_simp
            try with_reducible rfl
          try simp only [Act.put, List.getElem_toArray, List.getElem_cons_zero, List.getElem_cons_succ, List.setIfInBounds_toArray, List.set_cons_zero, List.set_cons_succ]
          refine wpAnyH_ready (rs := [18]) (by kernel_rfl) (by simp) ?_
          refine AllReadyH.cons rfl (fun K hK => ?_) AllReadyH.nil
          go_simp
          rw [← HW7.out]
          refine hK.out _ _ (HSX.out _ HA7.out.bel) (fun hHeld => ?_)
          clear hK K
          try simp only [Act.put, List.getElem_toArray, List.getElem_cons_zero, List.getElem_cons_succ, List.setIfInBounds_toArray, List.set_cons_zero, List.set_cons_succ]
          refine wpAnyH_done (by kernel_rfl) ?_ _
          refine NoPanic.normal ?_
          go_wp2_with fail
          exact ⟨⟨k + 1, A6, c6, by omega, by omega, by go_num, HA7.out, by rw [HNX.out]; exact HO7.out, HS7.out⟩, by simp [intOf]; omega⟩
      · have hc2' : decide ((k : Int) < 50) = false := decide_eq_false (by omega)
        have htk : texts.take k = texts.take 50 := by rw [show k = 50 by omega]
        obtain ⟨ts, hts⟩ : ∃ t, t = (texts.take 50).map fun s => cutS s 500 := ⟨_, rfl⟩
        have hkl : ts.length = k := by rw [hts, List.length_map, ← htk, List.length_take, HN.out]; omega
        have HO1 := Lib.hid (show wr.ownsRow W0.heap.size 9 1 (.slice A k c) k (ts.map Value.string) by rw [hts, ← htk]; exact HO.out)
        have HTS := Lib.hid hts
        have HKL := Lib.hid hkl
        go_upto_region 7 with fail
        clear hts hkl htk w5
        have s5 := cell_of_row _ _ 5 _ _ (0, 0) HA.out.b1
        have g5 := Gn.frozen_row HA.out.b2 5
        have t5 := cell_of_row _ _ 5 _ _ (0, 0) HA.out.b2
        have HA7 := Lib.hid (HA.out.set2 5 (.slice A k c))
        have HO7 := Lib.hid (own_far HO1.out HA.out.b2 (by decide) (fun r hr => Gn.set_keep (k := r) wr 5 (.slice A k c) (fun e => hr e.symm)))
        obtain ⟨W7, hW7⟩ : ∃ w, w = wr.setCell ⟨q2, 5, none⟩ (.slice A k c) := ⟨_, rfl⟩
        rw [← hW7] at HA7 HO7
        have HW7 := Lib.hid hW7
        clear hW7
        go_upto_region 8 with fail
        rw [← HW7.out]
        clear s5 g5 t5
        have hxr := (HA7.out.bel.block _ (Gn.heap_lt HRAW.out)).trans HRAW.out
        have w6 := cell_of_row _ _ 6 _ _ (0, 0) hxr
        clear hxr
        go_wp2_with fail
        go_loopw [7] (fun i wr => ∃ (j : Nat) (B : Option Addr) (d : Nat), j ≤ m ∧ j ≤ 50 ∧ i = .int .i64 j ∧ RpA V wr rb r1 r2 q1 q2 #[.int .i64 code, .int .i64 line, .int .i64 col, .int .i64 count, .string tx, .slice A k c, .slice B j d] #[.int .i64 code, .int .i64 line, .int .i64 col, .int .i64 count, .string tx, .slice A k c, .slice none 0 0] ∧ wr.ownsRow W7.heap.size 89 1 (.slice B j d) j ((marks.take j).map fltV) ∧ wr.ownsRow W0.heap.size 9 1 (.slice A k c) k (ts.map Value.string) ∧ W7.heap.size ≤ wr.heap.size) (fun i _ => 50 - (intOf i).toNat)
        case atStart => exact ⟨0, none, 0, Nat.zero_le _, by omega, rfl, HA7.out, by simpa using World.ownsRow_nil _ _ _ _, HO7.out, Nat.le_refl _⟩
        case round =>
          obtain ⟨j, B, d, hjm, hj50, rfl, hst, hown, hownt, hsz⟩ := hrel
          have HC := Lib.hid hst
          have HPF := Lib.hid hown
          have HQ := Lib.hid hownt
          have HTZ := Lib.hid hsz
          have hxr := (HC.out.bel.block _ (Gn.heap_lt HRAW.out)).trans HRAW.out
          clear hst hown hownt hsz w6
          have w6 := cell_of_row _ _ 6 _ _ (0, 0) hxr
          clear hxr
          by_cases hd1 : j < m
          · have hd1' : (j : Int) < (m : Int) := by omega
            by_cases hd2 : j < 50
            · have hd2' : (j : Int) < 50 := by omega
              have hjs : j < marks.length := by rw [HM.out]; exact hd1
              obtain ⟨b1, off1, rfl, hbb, hc⟩ := U64s.get HF.out j hd1
              obtain ⟨z, hz⟩ : ∃ x, x = marks[j] := ⟨_, rfl⟩
              rw [← hz] at hc
              have hfrom := Mk.mfrom z
              have HNX := Lib.hid (show ((marks.take (j + 1)).map fltV) = ((marks.take j).map fltV) ++ [fltV z] by
                rw [List.take_succ_eq_append_getElem hjs, List.map_append, hz]; rfl)
              have HSX := Lib.hid (fun (w' : World) (b9 : Below V.heap.size V w') => show (fun w' : World => w'.cell? ⟨rb, 6, none⟩ = some (.slice (some ⟨b1, off1, none⟩) m cap2) ∧ w'.cell? ⟨b1, off1 + j, none⟩ = some (.int .u64 ((z : Nat) : Int))) w' from by
                have hx := (b9.block _ (Gn.heap_lt HRAW.out)).trans HRAW.out
                exact ⟨cell_of_row _ _ 6 _ _ (0, 0) hx, (b9.cell (p := ⟨b1, off1 + j, none⟩) hbb).trans hc⟩)
              have c1 := cell_of_row _ _ 6 _ _ (0, 0) HC.out.b1
              have c2 := cell_of_row _ _ 6 _ _ (0, 0) ((((Below.refl wr.heap.size wr).alloc (Nat.le_refl _) (.cells #[.float .f64 z] 89)).block _ (Gn.heap_lt HC.out.b1)).trans HC.out.b1)
              have HBA := Lib.hid ((Gn.below_drew HC.out.bel).alloc HC.out.bel.size (.cells #[.float .f64 z] 89))
              clear hz hc
              go_upto_region 11 with fail
              clear w6
              refine wp_region_noPanic ?_
              refine wp_region_held_drew (S := (fun w' : World => w'.cell? ⟨rb, 6, none⟩ = some (.slice (some ⟨b1, off1, none⟩) m cap2) ∧ w'.cell? ⟨b1, off1 + j, none⟩ = some (.int .u64 ((z : Nat) : Int)))) (by kernel_rfl) ?_ (fun hHeld => ?_)
              · exact HSX.out _ (Gn.below_drew HC.out.bel)
              conv in Array.replicate _ false => change #[false, false, false, false, false, false, false, false, false, false, false, false]
              refine wpAnyH_take (i := 0) (v := ?_) rfl (by kernel_rfl) (by kernel_rfl) (by kernel_rfl) (fun _ _ _ h => h) (Or.inl ⟨by rfl, ?_⟩) (by assumption) ?_
              rotate_left
              · intro w hSw
                try dsimp only at hSw
                go_simp
                try with_reducible rfl
              try simp only [Act.put, List.getElem_toArray, List.getElem_cons_zero, List.getElem_cons_succ, List.setIfInBounds_toArray, List.set_cons_zero, List.set_cons_succ]
              refine wpAnyH_take (i := 2) (v := ?_) rfl (by kernel_rfl) (by kernel_rfl) (by kernel_rfl) (fun _ _ _ h => h) (Or.inl ⟨by rfl, ?_⟩) (by assumption) ?_
              rotate_left
              · intro w hSw
                try dsimp only at hSw
                go_simp
                try with_reducible rfl
              try simp only [Act.put, List.getElem_toArray, List.getElem_cons_zero, List.getElem_cons_succ, List.setIfInBounds_toArray, List.set_cons_zero, List.set_cons_succ]
              refine wpAnyH_take (i := 3) (v := ?_) rfl (by kernel_rfl) (by kernel_rfl) (by kernel_rfl) (fun _ _ _ h => h) (Or.inl ⟨by rfl, ?_⟩) (by assumption) ?_
              rotate_left
              · intro w hSw
                try dsimp only at hSw
                go_simp
                try with_reducible rfl
              try simp only [Act.put, List.getElem_toArray, List.getElem_cons_zero, List.getElem_cons_succ, List.setIfInBounds_toArray, List.set_cons_zero, List.set_cons_succ]
              refine wpAnyH_take (i := 4) (v := ?_) rfl (by kernel_rfl) (by kernel_rfl) (by kernel_rfl) (fun _ _ _ h => h) (Or.inl ⟨by rfl, ?_⟩) (by assumption) ?_
              rotate_left
              · intro w hSw
                try dsimp only at hSw
                go_simp
                try with_reducible rfl
              try simp only [Act.put, List.getElem_toArray, List.getElem_cons_zero, List.getElem_cons_succ, List.setIfInBounds_toArray, List.set_cons_zero, List.set_cons_succ]
              refine wpAnyH_take (i := 5) (v := ?_) rfl (by kernel_rfl) (by kernel_rfl) (by kernel_rfl) (fun _ _ _ h => h) (Or.inl ⟨by rfl, ?_⟩) (by assumption) ?_
              rotate_left
              · intro w hSw
                try dsimp only at hSw
                go_simp
                try with_reducible rfl
              try simp only [Act.put, List.getElem_toArray, List.getElem_cons_zero, List.getElem_cons_succ, List.setIfInBounds_toArray, List.set_cons_zero, List.set_cons_succ]
              refine wpAnyH_take (i := 6) (v := ?_) rfl (by kernel_rfl) (by kernel_rfl) (by kernel_rfl) (fun _ _ _ h => h) (Or.inl ⟨by rfl, ?_⟩) (by assumption) ?_
              rotate_left
              · intro w hSw
                try dsimp only at hSw
                go_simp
                try with_reducible rfl
              try simp only [Act.put, List.getElem_toArray, List.getElem_cons_zero, List.getElem_cons_succ, List.setIfInBounds_toArray, List.set_cons_zero, List.set_cons_succ]
              refine wpAnyH_take (i := 7) (v := ?_) rfl (by kernel_rfl) (by kernel_rfl) (by kernel_rfl) (fun _ _ _ h => h) (Or.inl ⟨by rfl, ?_⟩) (by assumption) ?_
              rotate_left
              · intro w hSw
                try dsimp only at hSw
                go_simp
                try with_reducible rfl
              try simp only [Act.put, List.getElem_toArray, List.getElem_cons_zero, List.getElem_cons_succ, List.setIfInBounds_toArray, List.set_cons_zero, List.set_cons_succ]
              refine wpAnyH_ready (rs := [1, 8]) (by kernel_rfl) (by simp) ?_
              refine AllReadyH.cons rfl (fun K hK => ?_) ?_
              · go_simp
                refine hK.out _ _ (HSX.out _ (Gn.below_drew HC.out.bel)) (fun hHeld => ?_)
                clear hK K
                try simp only [Act.put, List.getElem_toArray, List.getElem_cons_zero, List.getElem_cons_succ, List.setIfInBounds_toArray, List.set_cons_zero, List.set_cons_succ]
                refine wpAnyH_ready (rs := [8]) (by kernel_rfl) (by simp) ?_
                refine AllReadyH.cons rfl (fun K hK => ?_) AllReadyH.nil
                go_simp
                refine hK.out _ _ (HSX.out _ HBA.out) (fun hHeld => ?_)
                clear hK K
                try simp only [Act.put, List.getElem_toArray, List.getElem_cons_zero, List.getElem_cons_succ, List.setIfInBounds_toArray, List.set_cons_zero, List.set_cons_succ]
                refine wpAnyH_ready (rs := [9]) (by kernel_rfl) (by simp) ?_
                refine AllReadyH.cons rfl (fun K hK => ?_) AllReadyH.nil
                refine step_append_flt _ rfl _ _ rfl W7.heap.size _ j _ rfl (HPF.out.alloc (.cells #[.float .f64 z] 89)) ⟨wr.heap.size, 0, none⟩ 1 z rfl (cell_of_row _ _ 0 _ _ (0, 0) (heap_alloc_new wr _)) (by omega) (by have := HTZ.out; simp; omega) ?_
                intro v5 w6 ho6 hg6
                obtain ⟨A6, c6, rfl⟩ := Gn.slice_of ho6
                have hFa := HPF.out.alloc (.cells #[.float .f64 z] 89)
                have hg7 : World.grownBy (wr.alloc (.cells #[.float .f64 z] 89)) w6 (Value.slice B j d).ownBlock := (by obtain ⟨a1, a2, a3, a4, a5⟩ := hg6; exact ⟨a1, a2, a3, a4, a5⟩)
                have HA6 := Lib.hid (HC.out.grow ((Below.refl wr.heap.size wr).alloc (Nat.le_refl _) (.cells #[.float .f64 z] 89)) (v := .slice B j d) hFa hg7 (by decide) (by decide) (by have := HA7.out.bel.size; exact this))
                have HQ6 := Lib.hid (own_kept (HQ.out.alloc (.cells #[.float .f64 z] 89)) hFa hg7 (by decide))
                have HO6 := Lib.hid ho6
                have hsz6 : W7.heap.size ≤ w6.heap.size := by obtain ⟨_, _, _, h4, _⟩ := hg6; have := HTZ.out; exact Nat.le_trans (Nat.le_trans this (by simp)) h4
                have HA8 := Lib.hid (HA6.out.set1 6 (.slice A6 (j + 1) c6))
                have HO8 := Lib.hid (own_far HO6.out HA6.out.b1 (by decide) (fun r hr => Gn.set_keep (k := r) w6 6 (.slice A6 (j + 1) c6) (fun e => hr e.symm)))
                have HQ8 := Lib.hid (own_far HQ6.out HA6.out.b1 (by decide) (fun r hr => Gn.set_keep (k := r) w6 6 (.slice A6 (j + 1) c6) (fun e => hr e.symm)))
                have s6 := cell_of_row _ _ 6 _ _ (0, 0) HA6.out.b1
                have g6 := Gn.frozen_row HA6.out.b1 6
                obtain ⟨w8, hw8⟩ : ∃ w, w = w6.setCell ⟨q1, 6, none⟩ (.slice A6 (j + 1) c6) := ⟨_, rfl⟩
                rw [← hw8] at HA8 HO8 HQ8
                have hsz8 : W7.heap.size ≤ w8.heap.size := by rw [hw8]; simpa [World.setCell] using hsz6
                have HW8 := Lib.hid hw8
                have HS8 := Lib.hid hsz8
                clear hFa ho6 hg6 hg7 hw8 hsz6 hsz8
                refine hK.out _ _ (HSX.out _ HA6.out.bel) (fun hHeld => ?_)
                clear hK K
                try simp only [Act.put, List.getElem_toArray, List.getElem_cons_zero, List.getElem_cons_succ, List.setIfInBounds_toArray, List.set_cons_zero, List.set_cons_succ]
                refine wpAnyH_take (i := 10) (v := ?_) rfl (by kernel_rfl) (by kernel_rfl) (by kernel_rfl) (fun _ _ _ h => h) (Or.inl ⟨by rfl, ?_⟩) (by assumption) ?_
                rotate_left
                · intro w hSw
                  try dsimp only at hSw
                  go_simp
                  try with_reducible rfl
                try simp only [Act.put, List.getElem_toArray, List.getElem_cons_zero, List.getElem_cons_succ, List.setIfInBounds_toArray, List.set_cons_zero, List.set_cons_succ]
                refine wpAnyH_ready (rs := [11]) (by kernel_rfl) (by simp) ?_
                refine AllReadyH.cons rfl (fun K hK => ?_) AllReadyH.nil
                go_simp
                rw [← HW8.out]
                refine hK.out _ _ (HSX.out _ HA8.out.bel) (fun hHeld => ?_)
                clear hK K
                try simp only [Act.put, List.getElem_toArray, List.getElem_cons_zero, List.getElem_cons_succ, List.setIfInBounds_toArray, List.set_cons_zero, List.set_cons_succ]
                refine wpAnyH_done (by kernel_rfl) ?_ _
                refine NoPanic.normal ?_
                go_wp2_with fail
                exact ⟨⟨j + 1, A6, c6, by omega, by omega, by go_num, HA8.out, by rw [HNX.out]; exact HO8.out, HQ8.out, HS8.out⟩, by simp [intOf]; omega⟩
              refine AllReadyH.cons rfl (fun K hK => ?_) AllReadyH.nil
              · go_simp
                refine hK.out _ _ (HSX.out _ HBA.out) (fun hHeld => ?_)
                clear hK K
                try simp only [Act.put, List.getElem_toArray, List.getElem_cons_zero, List.getElem_cons_succ, List.setIfInBounds_toArray, List.set_cons_zero, List.set_cons_succ]
                refine wpAnyH_ready (rs := [1]) (by kernel_rfl) (by simp) ?_
                refine AllReadyH.cons rfl (fun K hK => ?_) AllReadyH.nil
                go_simp
                refine hK.out _ _ (HSX.out _ HBA.out) (fun hHeld => ?_)
                clear hK K
                try simp only [Act.put, List.getElem_toArray, List.getElem_cons_zero, List.getElem_cons_succ, List.setIfInBounds_toArray, List.set_cons_zero, List.set_cons_succ]
                refine wpAnyH_ready (rs := [9]) (by kernel_rfl) (by simp) ?_
                refine AllReadyH.cons rfl (fun K hK => ?_) AllReadyH.nil
                refine step_append_flt _ rfl _ _ rfl W7.heap.size _ j _ rfl (HPF.out.alloc (.cells #[.float .f64 z] 89)) ⟨wr.heap.size, 0, none⟩ 1 z rfl (cell_of_row _ _ 0 _ _ (0, 0) (heap_alloc_new wr _)) (by omega) (by have := HTZ.out; simp; omega) ?_
                intro v5 w6 ho6 hg6
                obtain ⟨A6, c6, rfl⟩ := Gn.slice_of ho6
                have hFa := HPF.out.alloc (.cells #[.float .f64 z] 89)
                have hg7 : World.grownBy (wr.alloc (.cells #[.float .f64 z] 89)) w6 (Value.slice B j d).ownBlock := (by obtain ⟨a1, a2, a3, a4, a5⟩ := hg6; exact ⟨a1, a2, a3, a4, a5⟩)
                have HA6 := Lib.hid (HC.out.grow ((Below.refl wr.heap.size wr).alloc (Nat.le_refl _) (.cells #[.float .f64 z] 89)) (v := .slice B j d) hFa hg7 (by decide) (by decide) (by have := HA7.out.bel.size; exact this))
                have HQ6 := Lib.hid (own_kept (HQ.out.alloc (.cells #[.float .f64 z] 89)) hFa hg7 (by decide))
                have HO6 := Lib.hid ho6
                have hsz6 : W7.heap.size ≤ w6.heap.size := by obtain ⟨_, _, _, h4, _⟩ := hg6; have := HTZ.out; exact Nat.le_trans (Nat.le_trans this (by simp)) h4
                have HA8 := Lib.hid (HA6.out.set1 6 (.slice A6 (j + 1) c6))
                have HO8 := Lib.hid (own_far HO6.out HA6.out.b1 (by decide) (fun r hr => Gn.set_keep (k := r) w6 6 (.slice A6 (j + 1) c6) (fun e => hr e.symm)))
                have HQ8 := Lib.hid (own_far HQ6.out HA6.out.b1 (by decide) (fun r hr => Gn.set_keep (k := r) w6 6 (.slice A6 (j + 1) c6) (fun e => hr e.symm)))
                have s6 := cell_of_row _ _ 6 _ _ (0, 0) HA6.out.b1
                have g6 := Gn.frozen_row HA6.out.b1 6
                obtain ⟨w8, hw8⟩ : ∃ w, w = w6.setCell ⟨q1, 6, none⟩ (.slice A6 (j + 1) c6) := ⟨_, rfl⟩
                rw [← hw8] at HA8 HO8 HQ8
                have hsz8 : W7.heap.size ≤ w8.heap.size := by rw [hw8]; simpa [World.setCell] using hsz6
                have HW8 := Lib.hid hw8
                have HS8 := Lib.hid hsz8
                clear hFa ho6 hg6 hg7 hw8 hsz6 hsz8
                refine hK.out _ _ (HSX.out _ HA6.out.bel) (fun hHeld => ?_)
                clear hK K
                try simp only [Act.put, List.getElem_toArray, List.getElem_cons_zero, List.getElem_cons_succ, List.setIfInBounds_toArray, List.set_cons_zero, List.set_cons_succ]
                refine wpAnyH_take (i := 10) (v := ?_) rfl (by kernel_rfl) (by kernel_rfl) (by kernel_rfl) (fun _ _ _ h => h) (Or.inl ⟨by rfl, ?_⟩) (by assumption) ?_
                rotate_left
                · intro w hSw
                  try dsimp only at hSw
                  go_simp
                  try with_reducible rfl
                try simp only [Act.put, List.getElem_toArray, List.getElem_cons_zero, List.getElem_cons_succ, List.setIfInBounds_toArray, List.set_cons_zero, List.set_cons_succ]
                refine wpAnyH_ready (rs := [11]) (by kernel_rfl) (by simp) ?_
                refine AllReadyH.cons rfl (fun K hK => ?_) AllReadyH.nil
                go_simp
                rw [← HW8.out]
                refine hK.out _ _ (HSX.out _ HA8.out.bel) (fun hHeld => ?_)
                clear hK K
                try simp only [Act.put, List.getElem_toArray, List.getElem_cons_zero, List.getElem_cons_succ, List.setIfInBounds_toArray, List.set_cons_zero, List.set_cons_succ]
                refine wpAnyH_done (by kernel_rfl) ?_ _
                refine NoPanic.normal ?_
                go_wp2_with fail
                exact ⟨⟨j + 1, A6, c6, by omega, by omega, by go_num, HA8.out, by rw [HNX.out]; exact HO8.out, HQ8.out, HS8.out⟩, by simp [intOf]; omega⟩
            · have hd2' : decide ((j : Int) < 50) = false := decide_eq_false (by omega)
              have htm : marks.take j = marks.take 50 := by rw [show j = 50 by omega]
              go_upto_region 12 with fail
              obtain ⟨fs, hfs⟩ : ∃ t, t = marks.take 50 := ⟨_, rfl⟩
              have hjl : fs.length = j := by rw [hfs, ← htm, List.length_take, HM.out]; omega
              have HF1 := Lib.hid (show wr.ownsRow W7.heap.size 89 1 (.slice B j d) j (fs.map fltV) by rw [hfs, ← htm]; exact HPF.out)
              have HFS := Lib.hid hfs
              have HJL := Lib.hid hjl
              clear hfs hjl htm w6
              have s6 := cell_of_row _ _ 6 _ _ (0, 0) HC.out.b1
              have g6 := Gn.frozen_row HC.out.b2 6
              have t6 := cell_of_row _ _ 6 _ _ (0, 0) HC.out.b2
              have HA9 := Lib.hid (show RpA V (wr.setCell ⟨q2, 6, none⟩ (.slice B j d)) rb r1 r2 q1 q2 #[.int .i64 code, .int .i64 line, .int .i64 col, .int .i64 count, .string tx, .slice A k c, .slice B j d] #[.int .i64 code, .int .i64 line, .int .i64 col, .int .i64 count, .string tx, .slice A k c, .slice B j d] from HC.out.set2 6 (.slice B j d))
              have HF9 := Lib.hid (own_far HF1.out HC.out.b2 (by decide) (fun r hr => Gn.set_keep (k := r) wr 6 (.slice B j d) (fun e => hr e.symm)))
              have HQ9 := Lib.hid (own_far HQ.out HC.out.b2 (by decide) (fun r hr => Gn.set_keep (k := r) wr 6 (.slice B j d) (fun e => hr e.symm)))
              obtain ⟨W9, hW9⟩ : ∃ w, w = wr.setCell ⟨q2, 6, none⟩ (.slice B j d) := ⟨_, rfl⟩
              rw [← hW9] at HA9 HF9 HQ9
              have HW9 := Lib.hid hW9
              clear hW9
              go_upto_region 13 with fail
              rw [← HW9.out]
              clear s6 g6 t6
              have HSK := Lib.hid (fun (w' : World) (e1 : w'.heap[q1]? = W9.heap[q1]?) (e2 : w'.heap[q2]? = W9.heap[q2]?) => show (fun w' : World => w'.cell? ⟨q1, 0, none⟩ = some (.int .i64 code) ∧ w'.cell? ⟨q1, 1, none⟩ = some (.int .i64 line) ∧ w'.cell? ⟨q1, 2, none⟩ = some (.int .i64 col) ∧ w'.cell? ⟨q1, 3, none⟩ = some (.int .i64 count) ∧ w'.cell? ⟨q1, 4, none⟩ = some (.string tx) ∧ w'.cell? ⟨q1, 5, none⟩ = some (.slice A k c) ∧ w'.cell? ⟨q1, 6, none⟩ = some (.slice B j d) ∧ w'.cell? ⟨q2, 0, none⟩ = some (.int .i64 code) ∧ w'.cell? ⟨q2, 1, none⟩ = some (.int .i64 line) ∧ w'.cell? ⟨q2, 2, none⟩ = some (.int .i64 col) ∧ w'.cell? ⟨q2, 3, none⟩ = some (.int .i64 count) ∧ w'.cell? ⟨q2, 4, none⟩ = some (.string tx) ∧ w'.cell? ⟨q2, 5, none⟩ = some (.slice A k c) ∧ w'.cell? ⟨q2, 6, none⟩ = some (.slice B j d)) w' from by
                have h1 := e1.trans HA9.out.b1
                have h2 := e2.trans HA9.out.b2
                exact ⟨cell_of_row _ _ 0 _ _ (0, 0) h1, cell_of_row _ _ 1 _ _ (0, 0) h1, cell_of_row _ _ 2 _ _ (0, 0) h1, cell_of_row _ _ 3 _ _ (0, 0) h1, cell_of_row _ _ 4 _ _ (0, 0) h1, cell_of_row _ _ 5 _ _ (0, 0) h1, cell_of_row _ _ 6 _ _ (0, 0) h1, cell_of_row _ _ 0 _ _ (0, 0) h2, cell_of_row _ _ 1 _ _ (0, 0) h2, cell_of_row _ _ 2 _ _ (0, 0) h2, cell_of_row _ _ 3 _ _ (0, 0) h2, cell_of_row _ _ 4 _ _ (0, 0) h2, cell_of_row _ _ 5 _ _ (0, 0) h2, cell_of_row _ _ 6 _ _ (0, 0) h2⟩)
              have hqr := And.intro (And.intro HA9.out.hq1 HA9.out.hq2) (And.intro HA9.out.lt1 HA9.out.lt2)
              refine wp_region_noPanic ?_
              refine wp_region_held_drew (S := (fun w' : World => w'.cell? ⟨q1, 0, none⟩ = some (.int .i64 code) ∧ w'.cell? ⟨q1, 1, none⟩ = some (.int .i64 line) ∧ w'.cell? ⟨q1, 2, none⟩ = some (.int .i64 col) ∧ w'.cell? ⟨q1, 3, none⟩ = some (.int .i64 count) ∧ w'.cell? ⟨q1, 4, none⟩ = some (.string tx) ∧ w'.cell? ⟨q1, 5, none⟩ = some (.slice A k c) ∧ w'.cell? ⟨q1, 6, none⟩ = some (.slice B j d) ∧ w'.cell? ⟨q2, 0, none⟩ = some (.int .i64 code) ∧ w'.cell? ⟨q2, 1, none⟩ = some (.int .i64 line) ∧ w'.cell? ⟨q2, 2, none⟩ = some (.int .i64 col) ∧ w'.cell? ⟨q2, 3, none⟩ = some (.int .i64 count) ∧ w'.cell? ⟨q2, 4, none⟩ = some (.string tx) ∧ w'.cell? ⟨q2, 5, none⟩ = some (.slice A k c) ∧ w'.cell? ⟨q2, 6, none⟩ = some (.slice B j d))) (by kernel_rfl) ?_ (fun hHeld => ?_)
              · exact HSK.out _ rfl rfl
              refine wpAnyH_take (i := 0) (v := ?_) rfl (by kernel_rfl) (by kernel_rfl) (by kernel_rfl) (fun _ _ _ h => h) (Or.inl ⟨by rfl, ?_⟩) (by assumption) ?_
              rotate_left
              · intro w hSw
                try dsimp only at hSw
                go_simp
                try with_reducible rfl
              try simp only [Act.put, List.getElem_toArray, List.getElem_cons_zero, List.getElem_cons_succ, List.setIfInBounds_toArray, List.set_cons_zero, List.set_cons_succ]
              refine wpAnyH_take (i := 1) (v := ?_) rfl (by kernel_rfl) (by kernel_rfl) (by kernel_rfl) (fun _ _ _ h => h) (Or.inl ⟨by rfl, ?_⟩) (by assumption) ?_
              rotate_left
              · intro w hSw
                try dsimp only at hSw
                go_simp
                try with_reducible rfl
              try simp only [Act.put, List.getElem_toArray, List.getElem_cons_zero, List.getElem_cons_succ, List.setIfInBounds_toArray, List.set_cons_zero, List.set_cons_succ]
              refine wpAnyH_ready (rs := [2]) (by kernel_rfl) (by simp) ?_
              refine AllReadyH.cons rfl (fun K hK => ?_) AllReadyH.nil
              refine step_store_box7 _ (by rfl) 46 (.tmp 2) (.tmp 92) (by rfl) r1 (.int .i64 code) (.int .i64 line) (.int .i64 col) (.int .i64 count) (.string tx) (.slice A k c) (.slice B j d) _ _ _ _ _ _ _ _ (by simp [Act.eval]) (by simp [Act.eval]) (by exact HA9.out.res1) (by kernel_rfl) (by simp [Value.oneCell']) ?_
              intro w8 hbx8 hoth8 hbel8 hsz8
              have HX8 := Lib.hid hbx8
              have HO8 := Lib.hid hoth8
              have HE8 := Lib.hid hbel8
              have HZ8 := Lib.hid hsz8
              clear hbx8 hoth8 hbel8 hsz8
              refine hK.out _ _ (HSK.out _ (HO8.out _ (by omega)) (HO8.out _ (by omega))) (fun hHeld => ?_)
              clear hK K
              try simp only [Act.put, List.getElem_toArray, List.getElem_cons_zero, List.getElem_cons_succ, List.setIfInBounds_toArray, List.set_cons_zero, List.set_cons_succ]
              refine wpAnyH_ready (rs := [3]) (by kernel_rfl) (by simp) ?_
              refine AllReadyH.cons rfl (fun K hK => ?_) AllReadyH.nil
              refine step_store_box7 _ (by rfl) 48 (.tmp 3) (.tmp 93) (by rfl) r2 (.int .i64 code) (.int .i64 line) (.int .i64 col) (.int .i64 count) (.string tx) (.slice A k c) (.slice B j d) _ _ _ _ _ _ _ _ (by simp [Act.eval]) (by simp [Act.eval]) (by exact (HO8.out _ (by have := HI2.out; have := HI3.out; omega)).trans HA9.out.res2) (by kernel_rfl) (by simp [Value.oneCell']) ?_
              intro w9 hbx9 hoth9 hbel9 hsz9
              have HX9 := Lib.hid hbx9
              have HO9 := Lib.hid hoth9
              have HE9 := Lib.hid hbel9
              have HZ9 := Lib.hid hsz9
              clear hbx9 hoth9 hbel9 hsz9
              refine hK.out _ _ (HSK.out _ ((HO9.out _ (by omega)).trans (HO8.out _ (by omega))) ((HO9.out _ (by omega)).trans (HO8.out _ (by omega)))) (fun hHeld => ?_)
              clear hK K
              try simp only [Act.put, List.getElem_toArray, List.getElem_cons_zero, List.getElem_cons_succ, List.setIfInBounds_toArray, List.set_cons_zero, List.set_cons_succ]
              refine wpAnyH_done (by kernel_rfl) ?_ _
              refine NoPanic.normal ?_
              go_wp2_with fail
              have hi2 := HI2.out
              have hi3 := HI3.out
              refine bodyPost_ret (results_cells2 (P := Try.prog) rfl _ _ r1 r2 46 48 _ _ (0, 0) (0, 0) _ _ (by rfl) ((HO9.out _ (by omega)).trans HX8.out) Try.underlying46 (by rfl) (by kernel_rfl) (by rfl) HX9.out Try.underlying48 (by rfl) (by kernel_rfl)) (by rfl) ?_
              rw [HP.out]
              have hq8 := own_far HQ9.out HA9.out.res1 (by decide) (fun r hr => HO8.out r (fun e => hr e.symm))
              have hf8 := own_far HF9.out HA9.out.res1 (by decide) (fun r hr => HO8.out r (fun e => hr e.symm))
              have hr8 := (HO8.out r2 (by omega)).trans HA9.out.res2
              have hq9 := own_far hq8 hr8 (by decide) (fun r hr => HO9.out r (fun e => hr e.symm))
              have hf9 := own_far hf8 hr8 (by decide) (fun r hr => HO9.out r (fun e => hr e.symm))
              have hR : RepAt w9 (repOf ⟨code, line, col, count, text, texts, marks⟩) (.agg #[.int .i64 code, .int .i64 line, .int .i64 col, .int .i64 count, .string tx, .slice A k c, .slice B j d]) := by
                refine ⟨A, c, B, d, ?_, ?_, ?_⟩
                · show Value.agg #[.int .i64 code, .int .i64 line, .int .i64 col, .int .i64 count, .string tx, .slice A k c, .slice B j d] = .agg #[.int .i64 code, .int .i64 line, .int .i64 col, .int .i64 count, .string (cutS text 2000), .slice A ((texts.take 50).map fun s => cutS s 500).length c, .slice B (marks.take 50).length d]
                  rw [← HTS.out, HKL.out, ← HFS.out, HJL.out, ← HTX.out]
                · show Strs w9 A ((texts.take 50).map fun s => cutS s 500).length ((texts.take 50).map fun s => cutS s 500)
                  rw [← HTS.out, HKL.out]
                  exact strs_own2 hq9
                · show Flts w9 B (marks.take 50).length (marks.take 50)
                  rw [← HFS.out, HJL.out]
                  exact flts_own hf9
              exact ⟨_, _, rfl, hR, hR, ((Gn.below_drew (HB.out.trans (HA9.out.bel.mono HB.out.size))).trans (HE8.out w.heap.size (by omega))).trans (HE9.out w.heap.size (by omega))⟩
          · have hd1' : decide ((j : Int) < (m : Int)) = false := decide_eq_false (by omega)
            have htm : marks.take j = marks.take 50 := by rw [List.take_of_length_le (by rw [HM.out]; omega), List.take_of_length_le (by rw [HM.out]; omega)]
            go_upto_region 12 with fail
            obtain ⟨fs, hfs⟩ : ∃ t, t = marks.take 50 := ⟨_, rfl⟩
            have hjl : fs.length = j := by rw [hfs, ← htm, List.length_take, HM.out]; omega
            have HF1 := Lib.hid (show wr.ownsRow W7.heap.size 89 1 (.slice B j d) j (fs.map fltV) by rw [hfs, ← htm]; exact HPF.out)
            have HFS := Lib.hid hfs
            have HJL := Lib.hid hjl
            clear hfs hjl htm w6
            have s6 := cell_of_row _ _ 6 _ _ (0, 0) HC.out.b1
            have g6 := Gn.frozen_row HC.out.b2 6
            have t6 := cell_of_row _ _ 6 _ _ (0, 0) HC.out.b2
            have HA9 := Lib.hid (show RpA V (wr.setCell ⟨q2, 6, none⟩ (.slice B j d)) rb r1 r2 q1 q2 #[.int .i64 code, .int .i64 line, .int .i64 col, .int .i64 count, .string tx, .slice A k c, .slice B j d] #[.int .i64 code, .int .i64 line, .int .i64 col, .int .i64 count, .string tx, .slice A k c, .slice B j d] from HC.out.set2 6 (.slice B j d))
            have HF9 := Lib.hid (own_far HF1.out HC.out.b2 (by decide) (fun r hr => Gn.set_keep (k := r) wr 6 (.slice B j d) (fun e => hr e.symm)))
            have HQ9 := Lib.hid (own_far HQ.out HC.out.b2 (by decide) (fun r hr => Gn.set_keep (k := r) wr 6 (.slice B j d) (fun e => hr e.symm)))
            obtain ⟨W9, hW9⟩ : ∃ w, w = wr.setCell ⟨q2, 6, none⟩ (.slice B j d) := ⟨_, rfl⟩
            rw [← hW9] at HA9 HF9 HQ9
            have HW9 := Lib.hid hW9
            clear hW9
            go_upto_region 13 with fail
            rw [← HW9.out]
            clear s6 g6 t6
            have HSK := Lib.hid (fun (w' : World) (e1 : w'.heap[q1]? = W9.heap[q1]?) (e2 : w'.heap[q2]? = W9.heap[q2]?) => show (fun w' : World => w'.cell? ⟨q1, 0, none⟩ = some (.int .i64 code) ∧ w'.cell? ⟨q1, 1, none⟩ = some (.int .i64 line) ∧ w'.cell? ⟨q1, 2, none⟩ = some (.int .i64 col) ∧ w'.cell? ⟨q1, 3, none⟩ = some (.int .i64 count) ∧ w'.cell? ⟨q1, 4, none⟩ = some (.string tx) ∧ w'.cell? ⟨q1, 5, none⟩ = some (.slice A k c) ∧ w'.cell? ⟨q1, 6, none⟩ = some (.slice B j d) ∧ w'.cell? ⟨q2, 0, none⟩ = some (.int .i64 code) ∧ w'.cell? ⟨q2, 1, none⟩ = some (.int .i64 line) ∧ w'.cell? ⟨q2, 2, none⟩ = some (.int .i64 col) ∧ w'.cell? ⟨q2, 3, none⟩ = some (.int .i64 count) ∧ w'.cell? ⟨q2, 4, none⟩ = some (.string tx) ∧ w'.cell? ⟨q2, 5, none⟩ = some (.slice A k c) ∧ w'.cell? ⟨q2, 6, none⟩ = some (.slice B j d)) w' from by
              have h1 := e1.trans HA9.out.b1
              have h2 := e2.trans HA9.out.b2
              exact ⟨cell_of_row _ _ 0 _ _ (0, 0) h1, cell_of_row _ _ 1 _ _ (0, 0) h1, cell_of_row _ _ 2 _ _ (0, 0) h1, cell_of_row _ _ 3 _ _ (0, 0) h1, cell_of_row _ _ 4 _ _ (0, 0) h1, cell_of_row _ _ 5 _ _ (0, 0) h1, cell_of_row _ _ 6 _ _ (0, 0) h1, cell_of_row _ _ 0 _ _ (0, 0) h2, cell_of_row _ _ 1 _ _ (0, 0) h2, cell_of_row _ _ 2 _ _ (0, 0) h2, cell_of_row _ _ 3 _ _ (0, 0) h2, cell_of_row _ _ 4 _ _ (0, 0) h2, cell_of_row _ _ 5 _ _ (0, 0) h2, cell_of_row _ _ 6 _ _ (0, 0) h2⟩)
            have hqr := And.intro (And.intro HA9.out.hq1 HA9.out.hq2) (And.intro HA9.out.lt1 HA9.out.lt2)
            refine wp_region_noPanic ?_
            refine wp_region_held_drew (S := (fun w' : World => w'.cell? ⟨q1, 0, none⟩ = some (.int .i64 code) ∧ w'.cell? ⟨q1, 1, none⟩ = some (.int .i64 line) ∧ w'.cell? ⟨q1, 2, none⟩ = some (.int .i64 col) ∧ w'.cell? ⟨q1, 3, none⟩ = some (.int .i64 count) ∧ w'.cell? ⟨q1, 4, none⟩ = some (.string tx) ∧ w'.cell? ⟨q1, 5, none⟩ = some (.slice A k c) ∧ w'.cell? ⟨q1, 6, none⟩ = some (.slice B j d) ∧ w'.cell? ⟨q2, 0, none⟩ = some (.int .i64 code) ∧ w'.cell? ⟨q2, 1, none⟩ = some (.int .i64 line) ∧ w'.cell? ⟨q2, 2, none⟩ = some (.int .i64 col) ∧ w'.cell? ⟨q2, 3, none⟩ = some (.int .i64 count) ∧ w'.cell? ⟨q2, 4, none⟩ = some (.string tx) ∧ w'.cell? ⟨q2, 5, none⟩ = some (.slice A k c) ∧ w'.cell? ⟨q2, 6, none⟩ = some (.slice B j d))) (by kernel_rfl) ?_ (fun hHeld => ?_)
            · exact HSK.out _ rfl rfl
            refine wpAnyH_take (i := 0) (v := ?_) rfl (by kernel_rfl) (by kernel_rfl) (by kernel_rfl) (fun _ _ _ h => h) (Or.inl ⟨by rfl, ?_⟩) (by assumption) ?_
            rotate_left
            · intro w hSw
              try dsimp only at hSw
              go_simp
              try with_reducible rfl
            try simp only [Act.put, List.getElem_toArray, List.getElem_cons_zero, List.getElem_cons_succ, List.setIfInBounds_toArray, List.set_cons_zero, List.set_cons_succ]
            refine wpAnyH_take (i := 1) (v := ?_) rfl (by kernel_rfl) (by kernel_rfl) (by kernel_rfl) (fun _ _ _ h => h) (Or.inl ⟨by rfl, ?_⟩) (by assumption) ?_
            rotate_left
            · intro w hSw
              try dsimp only at hSw
              go_simp
              try with_reducible rfl
            try simp only [Act.put, List.getElem_toArray, List.getElem_cons_zero, List.getElem_cons_succ, List.setIfInBounds_toArray, List.set_cons_zero, List.set_cons_succ]
            refine wpAnyH_ready (rs := [2]) (by kernel_rfl) (by simp) ?_
            refine AllReadyH.cons rfl (fun K hK => ?_) AllReadyH.nil
            refine step_store_box7 _ (by rfl) 46 (.tmp 2) (.tmp 92) (by rfl) r1 (.int .i64 code) (.int .i64 line) (.int .i64 col) (.int .i64 count) (.string tx) (.slice A k c) (.slice B j d) _ _ _ _ _ _ _ _ (by simp [Act.eval]) (by simp [Act.eval]) (by exact HA9.out.res1) (by kernel_rfl) (by simp [Value.oneCell']) ?_
            intro w8 hbx8 hoth8 hbel8 hsz8
            have HX8 := Lib.hid hbx8
            have HO8 := Lib.hid hoth8
            have HE8 := Lib.hid hbel8
            have HZ8 := Lib.hid hsz8
            clear hbx8 hoth8 hbel8 hsz8
            refine hK.out _ _ (HSK.out _ (HO8.out _ (by omega)) (HO8.out _ (by omega))) (fun hHeld => ?_)
            clear hK K
            try simp only [Act.put, List.getElem_toArray, List.getElem_cons_zero, List.getElem_cons_succ, List.setIfInBounds_toArray, List.set_cons_zero, List.set_cons_succ]
            refine wpAnyH_ready (rs := [3]) (by kernel_rfl) (by simp) ?_
            refine AllReadyH.cons rfl (fun K hK => ?_) AllReadyH.nil
            refine step_store_box7 _ (by rfl) 48 (.tmp 3) (.tmp 93) (by rfl) r2 (.int .i64 code) (.int .i64 line) (.int .i64 col) (.int .i64 count) (.string tx) (.slice A k c) (.slice B j d) _ _ _ _ _ _ _ _ (by simp [Act.eval]) (by simp [Act.eval]) (by exact (HO8.out _ (by have := HI2.out; have := HI3.out; omega)).trans HA9.out.res2) (by kernel_rfl) (by simp [Value.oneCell']) ?_
            intro w9 hbx9 hoth9 hbel9 hsz9
            have HX9 := Lib.hid hbx9
            have HO9 := Lib.hid hoth9
            have HE9 := Lib.hid hbel9
            have HZ9 := Lib.hid hsz9
            clear hbx9 hoth9 hbel9 hsz9
            refine hK.out _ _ (HSK.out _ ((HO9.out _ (by omega)).trans (HO8.out _ (by omega))) ((HO9.out _ (by omega)).trans (HO8.out _ (by omega)))) (fun hHeld => ?_)
            clear hK K
            try simp only [Act.put, List.getElem_toArray, List.getElem_cons_zero, List.getElem_cons_succ, List.setIfInBounds_toArray, List.set_cons_zero, List.set_cons_succ]
            refine wpAnyH_done (by kernel_rfl) ?_ _
            refine NoPanic.normal ?_
            go_wp2_with fail
            have hi2 := HI2.out
            have hi3 := HI3.out
            refine bodyPost_ret (results_cells2 (P := Try.prog) rfl _ _ r1 r2 46 48 _ _ (0, 0) (0, 0) _ _ (by rfl) ((HO9.out _ (by omega)).trans HX8.out) Try.underlying46 (by rfl) (by kernel_rfl) (by rfl) HX9.out Try.underlying48 (by rfl) (by kernel_rfl)) (by rfl) ?_
            rw [HP.out]
            have hq8 := own_far HQ9.out HA9.out.res1 (by decide) (fun r hr => HO8.out r (fun e => hr e.symm))
            have hf8 := own_far HF9.out HA9.out.res1 (by decide) (fun r hr => HO8.out r (fun e => hr e.symm))
            have hr8 := (HO8.out r2 (by omega)).trans HA9.out.res2
            have hq9 := own_far hq8 hr8 (by decide) (fun r hr => HO9.out r (fun e => hr e.symm))
            have hf9 := own_far hf8 hr8 (by decide) (fun r hr => HO9.out r (fun e => hr e.symm))
            have hR : RepAt w9 (repOf ⟨code, line, col, count, text, texts, marks⟩) (.agg #[.int .i64 code, .int .i64 line, .int .i64 col, .int .i64 count, .string tx, .slice A k c, .slice B j d]) := by
              refine ⟨A, c, B, d, ?_, ?_, ?_⟩
              · show Value.agg #[.int .i64 code, .int .i64 line, .int .i64 col, .int .i64 count, .string tx, .slice A k c, .slice B j d] = .agg #[.int .i64 code, .int .i64 line, .int .i64 col, .int .i64 count, .string (cutS text 2000), .slice A ((texts.take 50).map fun s => cutS s 500).length c, .slice B (marks.take 50).length d]
                rw [← HTS.out, HKL.out, ← HFS.out, HJL.out, ← HTX.out]
              · show Strs w9 A ((texts.take 50).map fun s => cutS s 500).length ((texts.take 50).map fun s => cutS s 500)
                rw [← HTS.out, HKL.out]
                exact strs_own2 hq9
              · show Flts w9 B (marks.take 50).length (marks.take 50)
                rw [← HFS.out, HJL.out]
                exact flts_own hf9
            exact ⟨_, _, rfl, hR, hR, ((Gn.below_drew (HB.out.trans (HA9.out.bel.mono HB.out.size))).trans (HE8.out w.heap.size (by omega))).trans (HE9.out w.heap.size (by omega))⟩
    · have hc1' : decide ((k : Int) < (n : Int)) = false := decide_eq_false (by omega)
      have htk : texts.take k = texts.take 50 := by rw [List.take_of_length_le (by rw [HN.out]; omega), List.take_of_length_le (by rw [HN.out]; omega)]
      obtain ⟨ts, hts⟩ : ∃ t, t = (texts.take 50).map fun s => cutS s 500 := ⟨_, rfl⟩
      have hkl : ts.length = k := by rw [hts, List.length_map, ← htk, List.length_take, HN.out]; omega
      have HO1 := Lib.hid (show wr.ownsRow W0.heap.size 9 1 (.slice A k c) k (ts.map Value.string) by rw [hts, ← htk]; exact HO.out)
      have HTS := Lib.hid hts
      have HKL := Lib.hid hkl
      go_upto_region 7 with fail
      clear hts hkl htk w5
      have s5 := cell_of_row _ _ 5 _ _ (0, 0) HA.out.b1
      have g5 := Gn.frozen_row HA.out.b2 5
      have t5 := cell_of_row _ _ 5 _ _ (0, 0) HA.out.b2
      have HA7 := Lib.hid (HA.out.set2 5 (.slice A k c))
      have HO7 := Lib.hid (own_far HO1.out HA.out.b2 (by decide) (fun r hr => Gn.set_keep (k := r) wr 5 (.slice A k c) (fun e => hr e.symm)))
      obtain ⟨W7, hW7⟩ : ∃ w, w = wr.setCell ⟨q2, 5, none⟩ (.slice A k c) := ⟨_, rfl⟩
      rw [← hW7] at HA7 HO7
      have HW7 := Lib.hid hW7
      clear hW7
      go_upto_region 8 with fail
      rw [← HW7.out]
      clear s5 g5 t5
      have hxr := (HA7.out.bel.block _ (Gn.heap_lt HRAW.out)).trans HRAW.out
      have w6 := cell_of_row _ _ 6 _ _ (0, 0) hxr
      clear hxr
      go_wp2_with fail
      go_loopw [7] (fun i wr => ∃ (j : Nat) (B : Option Addr) (d : Nat), j ≤ m ∧ j ≤ 50 ∧ i = .int .i64 j ∧ RpA V wr rb r1 r2 q1 q2 #[.int .i64 code, .int .i64 line, .int .i64 col, .int .i64 count, .string tx, .slice A k c, .slice B j d] #[.int .i64 code, .int .i64 line, .int .i64 col, .int .i64 count, .string tx, .slice A k c, .slice none 0 0] ∧ wr.ownsRow W7.heap.size 89 1 (.slice B j d) j ((marks.take j).map fltV) ∧ wr.ownsRow W0.heap.size 9 1 (.slice A k c) k (ts.map Value.string) ∧ W7.heap.size ≤ wr.heap.size) (fun i _ => 50 - (intOf i).toNat)
      case atStart => exact ⟨0, none, 0, Nat.zero_le _, by omega, rfl, HA7.out, by simpa using World.ownsRow_nil _ _ _ _, HO7.out, Nat.le_refl _⟩
      case round =>
        obtain ⟨j, B, d, hjm, hj50, rfl, hst, hown, hownt, hsz⟩ := hrel
        have HC := Lib.hid hst
        have HPF := Lib.hid hown
        have HQ := Lib.hid hownt
        have HTZ := Lib.hid hsz
        have hxr := (HC.out.bel.block _ (Gn.heap_lt HRAW.out)).trans HRAW.out
        clear hst hown hownt hsz w6
        have w6 := cell_of_row _ _ 6 _ _ (0, 0) hxr
        clear hxr
        by_cases hd1 : j < m
        · have hd1' : (j : Int) < (m : Int) := by omega
          by_cases hd2 : j < 50
          · have hd2' : (j : Int) < 50 := by omega
            have hjs : j < marks.length := by rw [HM.out]; exact hd1
            obtain ⟨b1, off1, rfl, hbb, hc⟩ := U64s.get HF.out j hd1
            obtain ⟨z, hz⟩ : ∃ x, x = marks[j] := ⟨_, rfl⟩
            rw [← hz] at hc
            have hfrom := Mk.mfrom z
            have HNX := Lib.hid (show ((marks.take (j + 1)).map fltV) = ((marks.take j).map fltV) ++ [fltV z] by
              rw [List.take_succ_eq_append_getElem hjs, List.map_append, hz]; rfl)
            have HSX := Lib.hid (fun (w' : World) (b9 : Below V.heap.size V w') => show (fun w' : World => w'.cell? ⟨rb, 6, none⟩ = some (.slice (some ⟨b1, off1, none⟩) m cap2) ∧ w'.cell? ⟨b1, off1 + j, none⟩ = some (.int .u64 ((z : Nat) : Int))) w' from by
              have hx := (b9.block _ (Gn.heap_lt HRAW.out)).trans HRAW.out
              exact ⟨cell_of_row _ _ 6 _ _ (0, 0) hx, (b9.cell (p := ⟨b1, off1 + j, none⟩) hbb).trans hc⟩)
            have c1 := cell_of_row _ _ 6 _ _ (0, 0) HC.out.b1
            have c2 := cell_of_row _ _ 6 _ _ (0, 0) ((((Below.refl wr.heap.size wr).alloc (Nat.le_refl _) (.cells #[.float .f64 z] 89)).block _ (Gn.heap_lt HC.out.b1)).trans HC.out.b1)
            have HBA := Lib.hid ((Gn.below_drew HC.out.bel).alloc HC.out.bel.size (.cells #[.float .f64 z] 89))
            clear hz hc
            go_upto_region 11 with fail
            clear w6
            refine wp_region_noPanic ?_
            refine wp_region_held_drew (S := (fun w' : World => w'.cell? ⟨rb, 6, none⟩ = some (.slice (some ⟨b1, off1, none⟩) m cap2) ∧ w'.cell? ⟨b1, off1 + j, none⟩ = some (.int .u64 ((z : Nat) : Int)))) (by kernel_rfl) ?_ (fun hHeld => ?_)
            · exact HSX.out _ (Gn.below_drew HC.out.bel)
            conv in Array.replicate _ false => change #[false, false, false, false, false, false, false, false, false, false, false, false]
            refine wpAnyH_take (i := 0) (v := ?_) rfl (by kernel_rfl) (by kernel_rfl) (by kernel_rfl) (fun _ _ _ h => h) (Or.inl ⟨by rfl, ?_⟩) (by assumption) ?_
            rotate_left
            · intro w hSw
              try dsimp only at hSw
              go_simp
              try with_reducible rfl
            try simp only [Act.put, List.getElem_toArray, List.getElem_cons_zero, List.getElem_cons_succ, List.setIfInBounds_toArray, List.set_cons_zero, List.set_cons_succ]
            refine wpAnyH_take (i := 2) (v := ?_) rfl (by kernel_rfl) (by kernel_rfl) (by kernel_rfl) (fun _ _ _ h => h) (Or.inl ⟨by rfl, ?_⟩) (by assumption) ?_
            rotate_left
            · intro w hSw
              try dsimp only at hSw
              go_simp
              try with_reducible rfl
            try simp only [Act.put, List.getElem_toArray, List.getElem_cons_zero, List.getElem_cons_succ, List.setIfInBounds_toArray, List.set_cons_zero, List.set_cons_succ]
            refine wpAnyH_take (i := 3) (v := ?_) rfl (by kernel_rfl) (by kernel_rfl) (by kernel_rfl) (fun _ _ _ h => h) (Or.inl ⟨by rfl, ?_⟩) (by assumption) ?_
            rotate_left
            · intro w hSw
              try dsimp only at hSw
              go_simp
              try with_reducible rfl
            try simp only [Act.put, List.getElem_toArray, List.getElem_cons_zero, List.getElem_cons_succ, List.setIfInBounds_toArray, List.set_cons_zero, List.set_cons_succ]
            refine wpAnyH_take (i := 4) (v := ?_) rfl (by kernel_rfl) (by kernel_rfl) (by kernel_rfl) (fun _ _ _ h => h) (Or.inl ⟨by rfl, ?_⟩) (by assumption) ?_
            rotate_left
            · intro w hSw
              try dsimp only at hSw
              go_simp
              try with_reducible rfl
            try simp only [Act.put, List.getElem_toArray, List.getElem_cons_zero, List.getElem_cons_succ, List.setIfInBounds_toArray, List.set_cons_zero, List.set_cons_succ]
            refine wpAnyH_take (i := 5) (v := ?_) rfl (by kernel_rfl) (by kernel_rfl) (by kernel_rfl) (fun _ _ _ h => h) (Or.inl ⟨by rfl, ?_⟩) (by assumption) ?_
            rotate_left
            · intro w hSw
              try dsimp only at hSw
              go_simp
              try with_reducible rfl
            try simp only [Act.put, List.getElem_toArray, List.getElem_cons_zero, List.getElem_cons_succ, List.setIfInBounds_toArray, List.set_cons_zero, List.set_cons_succ]
            refine wpAnyH_take (i := 6) (v := ?_) rfl (by kernel_rfl) (by kernel_rfl) (by kernel_rfl) (fun _ _ _ h => h) (Or.inl ⟨by rfl, ?_⟩) (by assumption) ?_
            rotate_left
            · intro w hSw
              try dsimp only at hSw
              go_simp
              try with_reducible rfl
            try simp only [Act.put, List.getElem_toArray, List.getElem_cons_zero, List.getElem_cons_succ, List.setIfInBounds_toArray, List.set_cons_zero, List.set_cons_succ]
            refine wpAnyH_take (i := 7) (v := ?_) rfl (by kernel_rfl) (by kernel_rfl) (by kernel_rfl) (fun _ _ _ h => h) (Or.inl ⟨by rfl, ?_⟩) (by assumption) ?_
            rotate_left
            · intro w hSw
              try dsimp only at hSw
              go_simp
              try with_reducible rfl
            try simp only [Act.put, List.getElem_toArray, List.getElem_cons_zero, List.getElem_cons_succ, List.setIfInBounds_toArray, List.set_cons_zero, List.set_cons_succ]
            refine wpAnyH_ready (rs := [1, 8]) (by kernel_rfl) (by simp) ?_
            refine AllReadyH.cons rfl (fun K hK => ?_) ?_
            · go_simp
              refine hK.out _ _ (HSX.out _ (Gn.below_drew HC.out.bel)) (fun hHeld => ?_)
              clear hK K
              try simp only [Act.put, List.getElem_toArray, List.getElem_cons_zero, List.getElem_cons_succ, List.setIfInBounds_toArray, List.set_cons_zero, List.set_cons_succ]
              refine wpAnyH_ready (rs := [8]) (by kernel_rfl) (by simp) ?_
              refine AllReadyH.cons rfl (fun K hK => ?_) AllReadyH.nil
              go_simp
              refine hK.out _ _ (HSX.out _ HBA.out) (fun hHeld => ?_)
              clear hK K
              try simp only [Act.put, List.getElem_toArray, List.getElem_cons_zero, List.getElem_cons_succ, List.setIfInBounds_toArray, List.set_cons_zero, List.set_cons_succ]
              refine wpAnyH_ready (rs := [9]) (by kernel_rfl) (by simp) ?_
              refine AllReadyH.cons rfl (fun K hK => ?_) AllReadyH.nil
              refine step_append_flt _ rfl _ _ rfl W7.heap.size _ j _ rfl (HPF.out.alloc (.cells #[.float .f64 z] 89)) ⟨wr.heap.size, 0, none⟩ 1 z rfl (cell_of_row _ _ 0 _ _ (0, 0) (heap_alloc_new wr _)) (by omega) (by have := HTZ.out; simp; omega) ?_
              intro v5 w6 ho6 hg6
              obtain ⟨A6, c6, rfl⟩ := Gn.slice_of ho6
              have hFa := HPF.out.alloc (.cells #[.float .f64 z] 89)
              have hg7 : World.grownBy (wr.alloc (.cells #[.float .f64 z] 89)) w6 (Value.slice B j d).ownBlock := (by obtain ⟨a1, a2, a3, a4, a5⟩ := hg6; exact ⟨a1, a2, a3, a4, a5⟩)
              have HA6 := Lib.hid (HC.out.grow ((Below.refl wr.heap.size wr).alloc (Nat.le_refl _) (.cells #[.float .f64 z] 89)) (v := .slice B j d) hFa hg7 (by decide) (by decide) (by have := HA7.out.bel.size; exact this))
              have HQ6 := Lib.hid (own_kept (HQ.out.alloc (.cells #[.float .f64 z] 89)) hFa hg7 (by decide))
              have HO6 := Lib.hid ho6
              have hsz6 : W7.heap.size ≤ w6.heap.size := by obtain ⟨_, _, _, h4, _⟩ := hg6; have := HTZ.out; exact Nat.le_trans (Nat.le_trans this (by simp)) h4
              have HA8 := Lib.hid (HA6.out.set1 6 (.slice A6 (j + 1) c6))
              have HO8 := Lib.hid (own_far HO6.out HA6.out.b1 (by decide) (fun r hr => Gn.set_keep (k := r) w6 6 (.slice A6 (j + 1) c6) (fun e => hr e.symm)))
              have HQ8 := Lib.hid (own_far HQ6.out HA6.out.b1 (by decide) (fun r hr => Gn.set_keep (k := r) w6 6 (.slice A6 (j + 1) c6) (fun e => hr e.symm)))
              have s6 := cell_of_row _ _ 6 _ _ (0, 0) HA6.out.b1
              have g6 := Gn.frozen_row HA6.out.b1 6
              obtain ⟨w8, hw8⟩ : ∃ w, w = w6.setCell ⟨q1, 6, none⟩ (.slice A6 (j + 1) c6) := ⟨_, rfl⟩
              rw [← hw8] at HA8 HO8 HQ8
              have hsz8 : W7.heap.size ≤ w8.heap.size := by rw [hw8]; simpa [World.setCell] using hsz6
              have HW8 := Lib.hid hw8
              have HS8 := Lib.hid hsz8
              clear hFa ho6 hg6 hg7 hw8 hsz6 hsz8
              refine hK.out _ _ (HSX.out _ HA6.out.bel) (fun hHeld => ?_)
              clear hK K
              try simp only [Act.put, List.getElem_toArray, List.getElem_cons_zero, List.getElem_cons_succ, List.setIfInBounds_toArray, List.set_cons_zero, List.set_cons_succ]
              refine wpAnyH_take (i := 10) (v := ?_) rfl (by kernel_rfl) (by kernel_rfl) (by kernel_rfl) (fun _ _ _ h => h) (Or.inl ⟨by rfl, ?_⟩) (by assumption) ?_
              rotate_left
              · intro w hSw
                try dsimp only at hSw
                go_simp
                try with_reducible rfl
              try simp only [Act.put, List.getElem_toArray, List.getElem_cons_zero, List.getElem_cons_succ, List.setIfInBounds_toArray, List.set_cons_zero, List.set_cons_succ]
              refine wpAnyH_ready (rs := [11]) (by kernel_rfl) (by simp) ?_
              refine AllReadyH.cons rfl (fun K hK => ?_) AllReadyH.nil
              go_simp
              rw [← HW8.out]
              refine hK.out _ _ (HSX.out _ HA8.out.bel) (fun hHeld => ?_)
              clear hK K
              try simp only [Act.put, List.getElem_toArray, List.getElem_cons_zero, List.getElem_cons_succ, List.setIfInBounds_toArray, List.set_cons_zero, List.set_cons_succ]
              refine wpAnyH_done (by kernel_rfl) ?_ _
              refine NoPanic.normal ?_
              go_wp2_with fail
              exact ⟨⟨j + 1, A6, c6, by omega, by omega, by go_num, HA8.out, by rw [HNX.out]; exact HO8.out, HQ8.out, HS8.out⟩, by simp [intOf]; omega⟩
            refine AllReadyH.cons rfl (fun K hK => ?_) AllReadyH.nil
            · go_simp
              refine hK.out _ _ (HSX.out _ HBA.out) (fun hHeld => ?_)
              clear hK K
              try simp only [Act.put, List.getElem_toArray, List.getElem_cons_zero, List.getElem_cons_succ, List.setIfInBounds_toArray, List.set_cons_zero, List.set_cons_succ]
              refine wpAnyH_ready (rs := [1]) (by kernel_rfl) (by simp) ?_
              refine AllReadyH.cons rfl (fun K hK => ?_) AllReadyH.nil
              go_simp
              refine hK.out _ _ (HSX.out _ HBA.out) (fun hHeld => ?_)
              clear hK K
              try simp only [Act.put, List.getElem_toArray, List.getElem_cons_zero, List.getElem_cons_succ, List.setIfInBounds_toArray, List.set_cons_zero, List.set_cons_succ]
              refine wpAnyH_ready (rs := [9]) (by kernel_rfl) (by simp) ?_
              refine AllReadyH.cons rfl (fun K hK => ?_) AllReadyH.nil
              refine step_append_flt _ rfl _ _ rfl W7.heap.size _ j _ rfl (HPF.out.alloc (.cells #[.float .f64 z] 89)) ⟨wr.heap.size, 0, none⟩ 1 z rfl (cell_of_row _ _ 0 _ _ (0, 0) (heap_alloc_new wr _)) (by omega) (by have := HTZ.out; simp; omega) ?_
              intro v5 w6 ho6 hg6
              obtain ⟨A6, c6, rfl⟩ := Gn.slice_of ho6
              have hFa := HPF.out.alloc (.cells #[.float .f64 z] 89)
              have hg7 : World.grownBy (wr.alloc (.cells #[.float .f64 z] 89)) w6 (Value.slice B j d).ownBlock := (by obtain ⟨a1, a2, a3, a4, a5⟩ := hg6; exact ⟨a1, a2, a3, a4, a5⟩)
              have HA6 := Lib.hid (HC.out.grow ((Below.refl wr.heap.size wr).alloc (Nat.le_refl _) (.cells #[.float .f64 z] 89)) (v := .slice B j d) hFa hg7 (by decide) (by decide) (by have := HA7.out.bel.size; exact this))
              have HQ6 := Lib.hid (own_kept (HQ.out.alloc (.cells #[.float .f64 z] 89)) hFa hg7 (by decide))
              have HO6 := Lib.hid ho6
              have hsz6 : W7.heap.size ≤ w6.heap.size := by obtain ⟨_, _, _, h4, _⟩ := hg6; have := HTZ.out; exact Nat.le_trans (Nat.le_trans this (by simp)) h4
              have HA8 := Lib.hid (HA6.out.set1 6 (.slice A6 (j + 1) c6))
              have HO8 := Lib.hid (own_far HO6.out HA6.out.b1 (by decide) (fun r hr => Gn.set_keep (k := r) w6 6 (.slice A6 (j + 1) c6) (fun e => hr e.symm)))
              have HQ8 := Lib.hid (own_far HQ6.out HA6.out.b1 (by decide) (fun r hr => Gn.set_keep (k := r) w6 6 (.slice A6 (j + 1) c6) (fun e => hr e.symm)))
              have s6 := cell_of_row _ _ 6 _ _ (0, 0) HA6.out.b1
              have g6 := Gn.frozen_row HA6.out.b1 6
              obtain ⟨w8, hw8⟩ : ∃ w, w = w6.setCell ⟨q1, 6, none⟩ (.slice A6 (j + 1) c6) := ⟨_, rfl⟩
              rw [← hw8] at HA8 HO8 HQ8
              have hsz8 : W7.heap.size ≤ w8.heap.size := by rw [hw8]; simpa [World.setCell] using hsz6
              have HW8 := Lib.hid hw8
              have HS8 := Lib.hid hsz8
              clear hFa ho6 hg6 hg7 hw8 hsz6 hsz8
              refine hK.out _ _ (HSX.out _ HA6.out.bel) (fun hHeld => ?_)
              clear hK K
              try simp only [Act.put, List.getElem_toArray, List.getElem_cons_zero, List.getElem_cons_succ, List.setIfInBounds_toArray, List.set_cons_zero, List.set_cons_succ]
              refine wpAnyH_take (i := 10) (v := ?_) rfl (by kernel_rfl) (by kernel_rfl) (by kernel_rfl) (fun _ _ _ h => h) (Or.inl ⟨by rfl, ?_⟩) (by assumption) ?_
              rotate_left
              · intro w hSw
                try dsimp only at hSw
                go_simp
                try with_reducible rfl
              try simp only [Act.put, List.getElem_toArray, List.getElem_cons_zero, List.getElem_cons_succ, List.setIfInBounds_toArray, List.set_cons_zero, List.set_cons_succ]
              refine wpAnyH_ready (rs := [11]) (by kernel_rfl) (by simp) ?_
              refine AllReadyH.cons rfl (fun K hK => ?_) AllReadyH.nil
              go_simp
              rw [← HW8.out]
              refine hK.out _ _ (HSX.out _ HA8.out.bel) (fun hHeld => ?_)
              clear hK K
              try simp only [Act.put, List.getElem_toArray, List.getElem_cons_zero, List.getElem_cons_succ, List.setIfInBounds_toArray, List.set_cons_zero, List.set_cons_succ]
              refine wpAnyH_done (by kernel_rfl) ?_ _
              refine NoPanic.normal ?_
              go_wp2_with fail
              exact ⟨⟨j + 1, A6, c6, by omega, by omega, by go_num, HA8.out, by rw [HNX.out]; exact HO8.out, HQ8.out, HS8.out⟩, by simp [intOf]; omega⟩
          · have hd2' : decide ((j : Int) < 50) = false := decide_eq_false (by omega)
            have htm : marks.take j = marks.take 50 := by rw [show j = 50 by omega]
            go_upto_region 12 with fail
            obtain ⟨fs, hfs⟩ : ∃ t, t = marks.take 50 := ⟨_, rfl⟩
            have hjl : fs.length = j := by rw [hfs, ← htm, List.length_take, HM.out]; omega
            have HF1 := Lib.hid (show wr.ownsRow W7.heap.size 89 1 (.slice B j d) j (fs.map fltV) by rw [hfs, ← htm]; exact HPF.out)
            have HFS := Lib.hid hfs
            have HJL := Lib.hid hjl
            clear hfs hjl htm w6
            have s6 := cell_of_row _ _ 6 _ _ (0, 0) HC.out.b1
            have g6 := Gn.frozen_row HC.out.b2 6
            have t6 := cell_of_row _ _ 6 _ _ (0, 0) HC.out.b2
            have HA9 := Lib.hid (show RpA V (wr.setCell ⟨q2, 6, none⟩ (.slice B j d)) rb r1 r2 q1 q2 #[.int .i64 code, .int .i64 line, .int .i64 col, .int .i64 count, .string tx, .slice A k c, .slice B j d] #[.int .i64 code, .int .i64 line, .int .i64 col, .int .i64 count, .string tx, .slice A k c, .slice B j d] from HC.out.set2 6 (.slice B j d))
            have HF9 := Lib.hid (own_far HF1.out HC.out.b2 (by decide) (fun r hr => Gn.set_keep (k := r) wr 6 (.slice B j d) (fun e => hr e.symm)))
            have HQ9 := Lib.hid (own_far HQ.out HC.out.b2 (by decide) (fun r hr => Gn.set_keep (k := r) wr 6 (.slice B j d) (fun e => hr e.symm)))
            obtain ⟨W9, hW9⟩ : ∃ w, w = wr.setCell ⟨q2, 6, none⟩ (.slice B j d) := ⟨_, rfl⟩
            rw [← hW9] at HA9 HF9 HQ9
            have HW9 := Lib.hid hW9
            clear hW9
            go_upto_region 13 with fail
            rw [← HW9.out]
            clear s6 g6 t6
            have HSK := Lib.hid (fun (w' : World) (e1 : w'.heap[q1]? = W9.heap[q1]?) (e2 : w'.heap[q2]? = W9.heap[q2]?) => show (fun w' : World => w'.cell? ⟨q1, 0, none⟩ = some (.int .i64 code) ∧ w'.cell? ⟨q1, 1, none⟩ = some (.int .i64 line) ∧ w'.cell? ⟨q1, 2, none⟩ = some (.int .i64 col) ∧ w'.cell? ⟨q1, 3, none⟩ = some (.int .i64 count) ∧ w'.cell? ⟨q1, 4, none⟩ = some (.string tx) ∧ w'.cell? ⟨q1, 5, none⟩ = some (.slice A k c) ∧ w'.cell? ⟨q1, 6, none⟩ = some (.slice B j d) ∧ w'.cell? ⟨q2, 0, none⟩ = some (.int .i64 code) ∧ w'.cell? ⟨q2, 1, none⟩ = some (.int .i64 line) ∧ w'.cell? ⟨q2, 2, none⟩ = some (.int .i64 col) ∧ w'.cell? ⟨q2, 3, none⟩ = some (.int .i64 count) ∧ w'.cell? ⟨q2, 4, none⟩ = some (.string tx) ∧ w'.cell? ⟨q2, 5, none⟩ = some (.slice A k c) ∧ w'.cell? ⟨q2, 6, none⟩ = some (.slice B j d)) w' from by
              have h1 := e1.trans HA9.out.b1
              have h2 := e2.trans HA9.out.b2
              exact ⟨cell_of_row _ _ 0 _ _ (0, 0) h1, cell_of_row _ _ 1 _ _ (0, 0) h1, cell_of_row _ _ 2 _ _ (0, 0) h1, cell_of_row _ _ 3 _ _ (0, 0) h1, cell_of_row _ _ 4 _ _ (0, 0) h1, cell_of_row _ _ 5 _ _ (0, 0) h1, cell_of_row _ _ 6 _ _ (0, 0) h1, cell_of_row _ _ 0 _ _ (0, 0) h2, cell_of_row _ _ 1 _ _ (0, 0) h2, cell_of_row _ _ 2 _ _ (0, 0) h2, cell_of_row _ _ 3 _ _ (0, 0) h2, cell_of_row _ _ 4 _ _ (0, 0) h2, cell_of_row _ _ 5 _ _ (0, 0) h2, cell_of_row _ _ 6 _ _ (0, 0) h2⟩)
            have hqr := And.intro (And.intro HA9.out.hq1 HA9.out.hq2) (And.intro HA9.out.lt1 HA9.out.lt2)
            refine wp_region_noPanic ?_
            refine wp_region_held_drew (S := (fun w' : World => w'.cell? ⟨q1, 0, none⟩ = some (.int .i64 code) ∧ w'.cell? ⟨q1, 1, none⟩ = some (.int .i64 line) ∧ w'.cell? ⟨q1, 2, none⟩ = some (.int .i64 col) ∧ w'.cell? ⟨q1, 3, none⟩ = some (.int .i64 count) ∧ w'.cell? ⟨q1, 4, none⟩ = some (.string tx) ∧ w'.cell? ⟨q1, 5, none⟩ = some (.slice A k c) ∧ w'.cell? ⟨q1, 6, none⟩ = some (.slice B j d) ∧ w'.cell? ⟨q2, 0, none⟩ = some (.int .i64 code) ∧ w'.cell? ⟨q2, 1, none⟩ = some (.int .i64 line) ∧ w'.cell? ⟨q2, 2, none⟩ = some (.int .i64 col) ∧ w'.cell? ⟨q2, 3, none⟩ = some (.int .i64 count) ∧ w'.cell? ⟨q2, 4, none⟩ = some (.string tx) ∧ w'.cell? ⟨q2, 5, none⟩ = some (.slice A k c) ∧ w'.cell? ⟨q2, 6, none⟩ = some (.slice B j d))) (by kernel_rfl) ?_ (fun hHeld => ?_)
            · exact HSK.out _ rfl rfl
            refine wpAnyH_take (i := 0) (v := ?_) rfl (by kernel_rfl) (by kernel_rfl) (by kernel_rfl) (fun _ _ _ h => h) (Or.inl ⟨by rfl, ?_⟩) (by assumption) ?_
            rotate_left
            · intro w hSw
              try dsimp only at hSw
              go_simp
              try with_reducible rfl
            try simp only [Act.put, List.getElem_toArray, List.getElem_cons_zero, List.getElem_cons_succ, List.setIfInBounds_toArray, List.set_cons_zero, List.set_cons_succ]
            refine wpAnyH_take (i := 1) (v := ?_) rfl (by kernel_rfl) (by kernel_rfl) (by kernel_rfl) (fun _ _ _ h => h) (Or.inl ⟨by rfl, ?_⟩) (by assumption) ?_
            rotate_left
            · intro w hSw
              try dsimp only at hSw
              go_simp
              try with_reducible rfl
            try simp only [Act.put, List.getElem_toArray, List.getElem_cons_zero, List.getElem_cons_succ, List.setIfInBounds_toArray, List.set_cons_zero, List.set_cons_succ]
            refine wpAnyH_ready (rs := [2]) (by kernel_rfl) (by simp) ?_
            refine AllReadyH.cons rfl (fun K hK => ?_) AllReadyH.nil
            refine step_store_box7 _ (by rfl) 46 (.tmp 2) (.tmp 92) (by rfl) r1 (.int .i64 code) (.int .i64 line) (.int .i64 col) (.int .i64 count) (.string tx) (.slice A k c) (.slice B j d) _ _ _ _ _ _ _ _ (by simp [Act.eval]) (by simp [Act.eval]) (by exact HA9.out.res1) (by kernel_rfl) (by simp [Value.oneCell']) ?_
            intro w8 hbx8 hoth8 hbel8 hsz8
            have HX8 := Lib.hid hbx8
            have HO8 := Lib.hid hoth8
            have HE8 := Lib.hid hbel8
            have HZ8 := Lib.hid hsz8
            clear hbx8 hoth8 hbel8 hsz8
            refine hK.out _ _ (HSK.out _ (HO8.out _ (by omega)) (HO8.out _ (by omega))) (fun hHeld => ?_)
            clear hK K
            try simp only [Act.put, List.getElem_toArray, List.getElem_cons_zero, List.getElem_cons_succ, List.setIfInBounds_toArray, List.set_cons_zero, List.set_cons_succ]
            refine wpAnyH_ready (rs := [3]) (by kernel_rfl) (by simp) ?_
            refine AllReadyH.cons rfl (fun K hK => ?_) AllReadyH.nil
            refine step_store_box7 _ (by rfl) 48 (.tmp 3) (.tmp 93) (by rfl) r2 (.int .i64 code) (.int .i64 line) (.int .i64 col) (.int .i64 count) (.string tx) (.slice A k c) (.slice B j d) _ _ _ _ _ _ _ _ (by simp [Act.eval]) (by simp [Act.eval]) (by exact (HO8.out _ (by have := HI2.out; have := HI3.out; omega)).trans HA9.out.res2) (by kernel_rfl) (by simp [Value.oneCell']) ?_
            intro w9 hbx9 hoth9 hbel9 hsz9
            have HX9 := Lib.hid hbx9
            have HO9 := Lib.hid hoth9
            have HE9 := Lib.hid hbel9
            have HZ9 := Lib.hid hsz9
            clear hbx9 hoth9 hbel9 hsz9
            refine hK.out _ _ (HSK.out _ ((HO9.out _ (by omega)).trans (HO8.out _ (by omega))) ((HO9.out _ (by omega)).trans (HO8.out _ (by omega)))) (fun hHeld => ?_)
            clear hK K
            try simp only [Act.put, List.getElem_toArray, List.getElem_cons_zero, List.getElem_cons_succ, List.setIfInBounds_toArray, List.set_cons_zero, List.set_cons_succ]
            refine wpAnyH_done (by kernel_rfl) ?_ _
            refine NoPanic.normal ?_
            go_wp2_with fail
            have hi2 := HI2.out
            have hi3 := HI3.out
            refine bodyPost_ret (results_cells2 (P := Try.prog) rfl _ _ r1 r2 46 48 _ _ (0, 0) (0, 0) _ _ (by rfl) ((HO9.out _ (by omega)).trans HX8.out) Try.underlying46 (by rfl) (by kernel_rfl) (by rfl) HX9.out Try.underlying48 (by rfl) (by kernel_rfl)) (by rfl) ?_
            rw [HP.out]
            have hq8 := own_far HQ9.out HA9.out.res1 (by decide) (fun r hr => HO8.out r (fun e => hr e.symm))
            have hf8 := own_far HF9.out HA9.out.res1 (by decide) (fun r hr => HO8.out r (fun e => hr e.symm))
            have hr8 := (HO8.out r2 (by omega)).trans HA9.out.res2
            have hq9 := own_far hq8 hr8 (by decide) (fun r hr => HO9.out r (fun e => hr e.symm))
            have hf9 := own_far hf8 hr8 (by decide) (fun r hr => HO9.out r (fun e => hr e.symm))
            have hR : RepAt w9 (repOf ⟨code, line, col, count, text, texts, marks⟩) (.agg #[.int .i64 code, .int .i64 line, .int .i64 col, .int .i64 count, .string tx, .slice A k c, .slice B j d]) := by
              refine ⟨A, c, B, d, ?_, ?_, ?_⟩
              · show Value.agg #[.int .i64 code, .int .i64 line, .int .i64 col, .int .i64 count, .string tx, .slice A k c, .slice B j d] = .agg #[.int .i64 code, .int .i64 line, .int .i64 col, .int .i64 count, .string (cutS text 2000), .slice A ((texts.take 50).map fun s => cutS s 500).length c, .slice B (marks.take 50).length d]
                rw [← HTS.out, HKL.out, ← HFS.out, HJL.out, ← HTX.out]
              · show Strs w9 A ((texts.take 50).map fun s => cutS s 500).length ((texts.take 50).map fun s => cutS s 500)
                rw [← HTS.out, HKL.out]
                exact strs_own2 hq9
              · show Flts w9 B (marks.take 50).length (marks.take 50)
                rw [← HFS.out, HJL.out]
                exact flts_own hf9
            exact ⟨_, _, rfl, hR, hR, ((Gn.below_drew (HB.out.trans (HA9.out.bel.mono HB.out.size))).trans (HE8.out w.heap.size (by omega))).trans (HE9.out w.heap.size (by omega))⟩
        · have hd1' : decide ((j : Int) < (m : Int)) = false := decide_eq_false (by omega)
          have htm : marks.take j = marks.take 50 := by rw [List.take_of_length_le (by rw [HM.out]; omega), List.take_of_length_le (by rw [HM.out]; omega)]
          go_upto_region 12 with fail
          obtain ⟨fs, hfs⟩ : ∃ t, t = marks.take 50 := ⟨_, rfl⟩
          have hjl : fs.length = j := by rw [hfs, ← htm, List.length_take, HM.out]; omega
          have HF1 := Lib.hid (show wr.ownsRow W7.heap.size 89 1 (.slice B j d) j (fs.map fltV) by rw [hfs, ← htm]; exact HPF.out)
          have HFS := Lib.hid hfs
          have HJL := Lib.hid hjl
          clear hfs hjl htm w6
          have s6 := cell_of_row _ _ 6 _ _ (0, 0) HC.out.b1
          have g6 := Gn.frozen_row HC.out.b2 6
          have t6 := cell_of_row _ _ 6 _ _ (0, 0) HC.out.b2
          have HA9 := Lib.hid (show RpA V (wr.setCell ⟨q2, 6, none⟩ (.slice B j d)) rb r1 r2 q1 q2 #[.int .i64 code, .int .i64 line, .int .i64 col, .int .i64 count, .string tx, .slice A k c, .slice B j d] #[.int .i64 code, .int .i64 line, .int .i64 col, .int .i64 count, .string tx, .slice A k c, .slice B j d] from HC.out.set2 6 (.slice B j d))
          have HF9 := Lib.hid (own_far HF1.out HC.out.b2 (by decide) (fun r hr => Gn.set_keep (k := r) wr 6 (.slice B j d) (fun e => hr e.symm)))
          have HQ9 := Lib.hid (own_far HQ.out HC.out.b2 (by decide) (fun r hr => Gn.set_keep (k := r) wr 6 (.slice B j d) (fun e => hr e.symm)))
          obtain ⟨W9, hW9⟩ : ∃ w, w = wr.setCell ⟨q2, 6, none⟩ (.slice B j d) := ⟨_, rfl⟩
          rw [← hW9] at HA9 HF9 HQ9
          have HW9 := Lib.hid hW9
          clear hW9
          go_upto_region 13 with fail
          rw [← HW9.out]
          clear s6 g6 t6
          have HSK := Lib.hid (fun (w' : World) (e1 : w'.heap[q1]? = W9.heap[q1]?) (e2 : w'.heap[q2]? = W9.heap[q2]?) => show (fun w' : World => w'.cell? ⟨q1, 0, none⟩ = some (.int .i64 code) ∧ w'.cell? ⟨q1, 1, none⟩ = some (.int .i64 line) ∧ w'.cell? ⟨q1, 2, none⟩ = some (.int .i64 col) ∧ w'.cell? ⟨q1, 3, none⟩ = some (.int .i64 count) ∧ w'.cell? ⟨q1, 4, none⟩ = some (.string tx) ∧ w'.cell? ⟨q1, 5, none⟩ = some (.slice A k c) ∧ w'.cell? ⟨q1, 6, none⟩ = some (.slice B j d) ∧ w'.cell? ⟨q2, 0, none⟩ = some (.int .i64 code) ∧ w'.cell? ⟨q2, 1, none⟩ = some (.int .i64 line) ∧ w'.cell? ⟨q2, 2, none⟩ = some (.int .i64 col) ∧ w'.cell? ⟨q2, 3, none⟩ = some (.int .i64 count) ∧ w'.cell? ⟨q2, 4, none⟩ = some (.string tx) ∧ w'.cell? ⟨q2, 5, none⟩ = some (.slice A k c) ∧ w'.cell? ⟨q2, 6, none⟩ = some (.slice B j d)) w' from by
            have h1 := e1.trans HA9.out.b1
            have h2 := e2.trans HA9.out.b2
            exact ⟨cell_of_row _ _ 0 _ _ (0, 0) h1, cell_of_row _ _ 1 _ _ (0, 0) h1, cell_of_row _ _ 2 _ _ (0, 0) h1, cell_of_row _ _ 3 _ _ (0, 0) h1, cell_of_row _ _ 4 _ _ (0, 0) h1, cell_of_row _ _ 5 _ _ (0, 0) h1, cell_of_row _ _ 6 _ _ (0, 0) h1, cell_of_row _ _ 0 _ _ (0, 0) h2, cell_of_row _ _ 1 _ _ (0, 0) h2, cell_of_row _ _ 2 _ _ (0, 0) h2, cell_of_row _ _ 3 _ _ (0, 0) h2, cell_of_row _ _ 4 _ _ (0, 0) h2, cell_of_row _ _ 5 _ _ (0, 0) h2, cell_of_row _ _ 6 _ _ (0, 0) h2⟩)
          have hqr := And.intro (And.intro HA9.out.hq1 HA9.out.hq2) (And.intro HA9.out.lt1 HA9.out.lt2)
          refine wp_region_noPanic ?_
          refine wp_region_held_drew (S := (fun w' : World => w'.cell? ⟨q1, 0, none⟩ = some (.int .i64 code) ∧ w'.cell? ⟨q1, 1, none⟩ = some (.int .i64 line) ∧ w'.cell? ⟨q1, 2, none⟩ = some (.int .i64 col) ∧ w'.cell? ⟨q1, 3, none⟩ = some (.int .i64 count) ∧ w'.cell? ⟨q1, 4, none⟩ = some (.string tx) ∧ w'.cell? ⟨q1, 5, none⟩ = some (.slice A k c) ∧ w'.cell? ⟨q1, 6, none⟩ = some (.slice B j d) ∧ w'.cell? ⟨q2, 0, none⟩ = some (.int .i64 code) ∧ w'.cell? ⟨q2, 1, none⟩ = some (.int .i64 line) ∧ w'.cell? ⟨q2, 2, none⟩ = some (.int .i64 col) ∧ w'.cell? ⟨q2, 3, none⟩ = some (.int .i64 count) ∧ w'.cell? ⟨q2, 4, none⟩ = some (.string tx) ∧ w'.cell? ⟨q2, 5, none⟩ = some (.slice A k c) ∧ w'.cell? ⟨q2, 6, none⟩ = some (.slice B j d))) (by kernel_rfl) ?_ (fun hHeld => ?_)
          · exact HSK.out _ rfl rfl
          refine wpAnyH_take (i := 0) (v := ?_) rfl (by kernel_rfl) (by kernel_rfl) (by kernel_rfl) (fun _ _ _ h => h) (Or.inl ⟨by rfl, ?_⟩) (by assumption) ?_
          rotate_left
          · intro w hSw
            try dsimp only at hSw
            go_simp
            try with_reducible rfl
          try simp only [Act.put, List.getElem_toArray, List.getElem_cons_zero, List.getElem_cons_succ, List.setIfInBounds_toArray, List.set_cons_zero, List.set_cons_succ]
          refine wpAnyH_take (i := 1) (v := ?_) rfl (by kernel_rfl) (by kernel_rfl) (by kernel_rfl) (fun _ _ _ h => h) (Or.inl ⟨by rfl, ?_⟩) (by assumption) ?_
          rotate_left
          · intro w hSw
            try dsimp only at hSw
            go_simp
            try with_reducible rfl
          try simp only [Act.put, List.getElem_toArray, List.getElem_cons_zero, List.getElem_cons_succ, List.setIfInBounds_toArray, List.set_cons_zero, List.set_cons_succ]
          refine wpAnyH_ready (rs := [2]) (by kernel_rfl) (by simp) ?_
          refine AllReadyH.cons rfl (fun K hK => ?_) AllReadyH.nil
          refine step_store_box7 _ (by rfl) 46 (.tmp 2) (.tmp 92) (by rfl) r1 (.int .i64 code) (.int .i64 line) (.int .i64 col) (.int .i64 count) (.string tx) (.slice A k c) (.slice B j d) _ _ _ _ _ _ _ _ (by simp [Act.eval]) (by simp [Act.eval]) (by exact HA9.out.res1) (by kernel_rfl) (by simp [Value.oneCell']) ?_
          intro w8 hbx8 hoth8 hbel8 hsz8
          have HX8 := Lib.hid hbx8
          have HO8 := Lib.hid hoth8
          have HE8 := Lib.hid hbel8
          have HZ8 := Lib.hid hsz8
          clear hbx8 hoth8 hbel8 hsz8
          refine hK.out _ _ (HSK.out _ (HO8.out _ (by omega)) (HO8.out _ (by omega))) (fun hHeld => ?_)
          clear hK K
          try simp only [Act.put, List.getElem_toArray, List.getElem_cons_zero, List.getElem_cons_succ, List.setIfInBounds_toArray, List.set_cons_zero, List.set_cons_succ]
          refine wpAnyH_ready (rs := [3]) (by kernel_rfl) (by simp) ?_
          refine AllReadyH.cons rfl (fun K hK => ?_) AllReadyH.nil
          refine step_store_box7 _ (by rfl) 48 (.tmp 3) (.tmp 93) (by rfl) r2 (.int .i64 code) (.int .i64 line) (.int .i64 col) (.int .i64 count) (.string tx) (.slice A k c) (.slice B j d) _ _ _ _ _ _ _ _ (by simp [Act.eval]) (by simp [Act.eval]) (by exact (HO8.out _ (by have := HI2.out; have := HI3.out; omega)).trans HA9.out.res2) (by kernel_rfl) (by simp [Value.oneCell']) ?_
          intro w9 hbx9 hoth9 hbel9 hsz9
          have HX9 := Lib.hid hbx9
          have HO9 := Lib.hid hoth9
          have HE9 := Lib.hid hbel9
          have HZ9 := Lib.hid hsz9
          clear hbx9 hoth9 hbel9 hsz9
          refine hK.out _ _ (HSK.out _ ((HO9.out _ (by omega)).trans (HO8.out _ (by omega))) ((HO9.out _ (by omega)).trans (HO8.out _ (by omega)))) (fun hHeld => ?_)
          clear hK K
          try simp only [Act.put, List.getElem_toArray, List.getElem_cons_zero, List.getElem_cons_succ, List.setIfInBounds_toArray, List.set_cons_zero, List.set_cons_succ]
          refine wpAnyH_done (by kernel_rfl) ?_ _
          refine NoPanic.normal ?_
          go_wp2_with fail
          have hi2 := HI2.out
          have hi3 := HI3.out
          refine bodyPost_ret (results_cells2 (P := Try.prog) rfl _ _ r1 r2 46 48 _ _ (0, 0) (0, 0) _ _ (by rfl) ((HO9.out _ (by omega)).trans HX8.out) Try.underlying46 (by rfl) (by kernel_rfl) (by rfl) HX9.out Try.underlying48 (by rfl) (by kernel_rfl)) (by rfl) ?_
          rw [HP.out]
          have hq8 := own_far HQ9.out HA9.out.res1 (by decide) (fun r hr => HO8.out r (fun e => hr e.symm))
          have hf8 := own_far HF9.out HA9.out.res1 (by decide) (fun r hr => HO8.out r (fun e => hr e.symm))
          have hr8 := (HO8.out r2 (by omega)).trans HA9.out.res2
          have hq9 := own_far hq8 hr8 (by decide) (fun r hr => HO9.out r (fun e => hr e.symm))
          have hf9 := own_far hf8 hr8 (by decide) (fun r hr => HO9.out r (fun e => hr e.symm))
          have hR : RepAt w9 (repOf ⟨code, line, col, count, text, texts, marks⟩) (.agg #[.int .i64 code, .int .i64 line, .int .i64 col, .int .i64 count, .string tx, .slice A k c, .slice B j d]) := by
            refine ⟨A, c, B, d, ?_, ?_, ?_⟩
            · show Value.agg #[.int .i64 code, .int .i64 line, .int .i64 col, .int .i64 count, .string tx, .slice A k c, .slice B j d] = .agg #[.int .i64 code, .int .i64 line, .int .i64 col, .int .i64 count, .string (cutS text 2000), .slice A ((texts.take 50).map fun s => cutS s 500).length c, .slice B (marks.take 50).length d]
              rw [← HTS.out, HKL.out, ← HFS.out, HJL.out, ← HTX.out]
            · show Strs w9 A ((texts.take 50).map fun s => cutS s 500).length ((texts.take 50).map fun s => cutS s 500)
              rw [← HTS.out, HKL.out]
              exact strs_own2 hq9
            · show Flts w9 B (marks.take 50).length (marks.take 50)
              rw [← HFS.out, HJL.out]
              exact flts_own hf9
          exact ⟨_, _, rfl, hR, hR, ((Gn.below_drew (HB.out.trans (HA9.out.bel.mono HB.out.size))).trans (HE8.out w.heap.size (by omega))).trans (HE9.out w.heap.size (by omega))⟩
end Go.Proofs.Ytbkfbejbloclgaa.Cm
