/-
  Layer 18: Get in plain words, and what stands in memory between its steps.
-/
import Derived.Test.YtnmhgjoofgmcgaaGreatRlHd2
import Derived.Test.YtnmhgjoofgmcgaaGreatRlIn2
import Derived.Test.YtnmhgjoofgmcgaaGreatRlClose
namespace Go.Proofs.YtnmhgjoofgmcgaaGreat.Rl
open Go.RowKit
open Fx (StrsAt)
open Oct (rInt rText rTexts rErr rEnd At Sep Gives)
set_option maxRecDepth 100000
set_option linter.unusedSimpArgs false
set_option linter.unusedVariables false
def mkS (z : List UInt8) : ByteArray := ⟨z.toArray⟩
def stepMs (q : List Mem × Oct.Rest) : List Mem × Oct.Rest :=
  (q.1 ++ [⟨mkS (rText q.2).1, (rInt (rText q.2).2).1, (rInt (rInt (rText q.2).2).2).1⟩], (rInt (rInt (rText q.2).2).2).2)
def rMs (r : Oct.Rest) : Nat → List Mem × Oct.Rest
  | 0 => ([], r)
  | k + 1 => stepMs (rMs r k)
def stepCs (q : List Cls × Oct.Rest) : List Cls × Oct.Rest :=
  (q.1 ++ [⟨mkS (rText q.2).1, mkS (rText (rText q.2).2).1, (rTexts 256 (rText (rText q.2).2).2).1.map mkS⟩], (rTexts 256 (rText (rText q.2).2).2).2)
def rCs (r : Oct.Rest) : Nat → List Cls × Oct.Rest
  | 0 => ([], r)
  | k + 1 => stepCs (rCs r k)
theorem rMs_len (r : Oct.Rest) : ∀ k, (rMs r k).1.length = k
  | 0 => rfl
  | k + 1 => by rw [rMs, stepMs, List.length_append, rMs_len r k]; rfl
theorem rCs_len (r : Oct.Rest) : ∀ k, (rCs r k).1.length = k
  | 0 => rfl
  | k + 1 => by rw [rCs, stepCs, List.length_append, rCs_len r k]; rfl
def getD9 (q : List Mem × Oct.Rest) (p : List Cls × Oct.Rest) : Except Nat Rol :=
  if rErr p.2 ≠ 0 then .error (rErr p.2) else if okR ⟨q.1, p.1⟩ = false then .error 2 else if rEnd p.2 ≠ 0 then .error (rEnd p.2) else .ok ⟨q.1, p.1⟩
def getC9 (q : List Mem × Oct.Rest) (z : Int × Oct.Rest) : Except Nat Rol := if z.1 < 0 ∨ 32 < z.1 then .error 2 else getD9 q (rCs z.2 z.1.toNat)
def getM9 (z : Int × Oct.Rest) : Except Nat Rol := if z.1 < 0 ∨ 256 < z.1 then .error 2 else getC9 (rMs z.2 z.1.toNat) (rInt (rMs z.2 z.1.toNat).2)
/-- Get: the roll of bytes, or what is wrong. -/
def getR (s : List UInt8) : Except Nat Rol := getM9 (rInt (.ok s))
theorem rText_le (r : Oct.Rest) : (rText r).1.length ≤ 65536 := by
  unfold Oct.rText
  have h := Oct.rLen_le 65536 r
  have h0 := Oct.rLen_nonneg 65536 r
  split
  · exact Nat.zero_le _
  · rename_i n l e
    rw [e] at h h0
    split
    · exact Nat.zero_le _
    · rw [List.length_take]
      simp only at h h0
      omega
theorem rTexts_le (r : Oct.Rest) : (rTexts 256 r).1.length ≤ 256 := by
  unfold Oct.rTexts
  have h := Oct.rLen_le (min 256 65536) r
  have h0 := Oct.rLen_nonneg (min 256 65536) r
  have hm : min (256 : Int) 65536 = 256 := by decide
  rw [hm] at h h0 ⊢
  have hl := Oct.rStrs_len (Oct.rLen 256 r).2 (Oct.rLen 256 r).1.toNat
  rcases hq : Oct.rStrs (Oct.rLen 256 r).2 (Oct.rLen 256 r).1.toNat with ⟨zs, b⟩
  rw [hq] at hl
  cases b with
  | error e => exact Nat.zero_le _
  | ok l =>
    show zs.length ≤ 256
    simp only at hl
    rw [hl]; omega
theorem rMs_size (r : Oct.Rest) : ∀ k, ∀ x ∈ (rMs r k).1, x.name.size ≤ 9223372036854775807
  | 0 => fun x hx => absurd hx (by simp [rMs])
  | k + 1 => fun x hx => by
    rw [rMs, stepMs] at hx
    rcases List.mem_append.1 hx with h | h
    · exact rMs_size r k x h
    · rw [List.mem_singleton] at h
      subst h
      have := rText_le (rMs r k).2
      show (rText (rMs r k).2).1.toArray.size ≤ _
      rw [List.size_toArray]; omega
theorem rCs_size (r : Oct.Rest) : ∀ k, ∀ x ∈ (rCs r k).1, x.name.size ≤ 9223372036854775807 ∧ x.studs.length ≤ 4096
  | 0 => fun x hx => absurd hx (by simp [rCs])
  | k + 1 => fun x hx => by
    rw [rCs, stepCs] at hx
    rcases List.mem_append.1 hx with h | h
    · exact rCs_size r k x h
    · rw [List.mem_singleton] at h
      subst h
      have := rText_le (rCs r k).2
      have := rTexts_le (rText (rText (rCs r k).2).2).2
      refine ⟨?_, ?_⟩
      · show (rText (rCs r k).2).1.toArray.size ≤ _
        rw [List.size_toArray]; omega
      · show ((rTexts 256 _).1.map mkS).length ≤ _
        rw [List.length_map]; omega
theorem own_type {w : World} {b : Nat} {T : TypeId} {s n : Nat} {v : Value} {xs : List Value} (h : w.ownsRow b T s v n xs) {q : Nat} (hq : v.ownBlock = some q) : ∃ cur, w.heap[q]? = some (.cells cur T (0, 0)) := by
  rcases h.2 with ⟨rfl, _⟩ | ⟨g, cap, cur, rfl, h1, h2, h3⟩
  · cases hq
  · have e := Option.some.inj hq
    subst e
    exact ⟨cur, h2⟩
theorem own_far {w w' : World} {b1 b2 : Nat} {T1 T2 : TypeId} {s1 s2 n m : Nat} {v u : Value} {xs ys : List Value} (h : w.ownsRow b1 T1 s1 v n xs) (k : w.ownsRow b2 T2 s2 u m ys) (hne : T1 ≠ T2) (hg : w.grownBy w' v.ownBlock) : w'.ownsRow b2 T2 s2 u m ys :=
  own_keep k fun q hq => by
    obtain ⟨cur, hc⟩ := own_type k hq
    exact (Oct.grown_keeps hg h hc hne).trans hc.symm
/-- Between Get's steps. -/
structure GtA (W w : World) (rest : Oct.Rest) (ms : List Mem) (cs : List Cls) (raws : List CRaw) (vm vc : Value) : Prop where
  bel : Below W.heap.size W w
  res : w.heap[W.heap.size]? = some (.cells #[.slice none 0 0, .slice none 0 0] 27 (0, 0))
  inn : At 101 w (W.heap.size + 1) rest
  box : w.heap[W.heap.size + 1 + 1]? = some (.cells #[vm, vc] 27 (0, 0))
  rm : w.ownsRow (W.heap.size + 3) 45 3 vm ms.length (cellsOf encM ms)
  rc : w.ownsRow (W.heap.size + 3) 53 3 vc cs.length (cellsOf encC raws)
  len : raws.length = cs.length
  own : ∀ (i : Nat) (h : i < raws.length) (h2 : i < cs.length), raws[i].name = cs[i].name ∧ raws[i].teacher = cs[i].teacher ∧ w.ownsRow (W.heap.size + 3) 9 1 raws[i].studs cs[i].studs.length (cs[i].studs.map Value.string)
section
variable {W w w' : World} {rest rest' : Oct.Rest} {ms : List Mem} {cs : List Cls} {raws : List CRaw} {vm vc : Value}
theorem GtA.sep (h : GtA W w rest ms cs raws vm vc) (hs : Sep (W.heap.size + 1) w.heap.size w w') (hat : At 101 w' (W.heap.size + 1) rest') : GtA W w' rest' ms cs raws vm vc := by
  have hk : ∀ q, q < w.heap.size → q ≠ W.heap.size + 1 → w'.heap[q]? = w.heap[q]? := hs.block
  have hlt := Gn.heap_lt h.box
  exact ⟨⟨hs.os.trans h.bel.os, hs.tape.trans h.bel.tape, hs.output.trans h.bel.output, Nat.le_trans h.bel.size hs.size, fun q hq => (hk q (by omega) (by omega)).trans (h.bel.block q hq)⟩, (hk _ (by omega) (by omega)).trans h.res, hat, (hk _ hlt (by omega)).trans h.box, own_keep h.rm fun q hq => hk q (Gn.own_lt h.rm q hq) (by have := Gn.own_block h.rm q hq; omega), own_keep h.rc fun q hq => hk q (Gn.own_lt h.rc q hq) (by have := Gn.own_block h.rc q hq; omega), h.len, fun i h1 h2 => ⟨(h.own i h1 h2).1, (h.own i h1 h2).2.1, own_keep (h.own i h1 h2).2.2 fun q hq => hk q (Gn.own_lt (h.own i h1 h2).2.2 q hq) (by have := Gn.own_block (h.own i h1 h2).2.2 q hq; omega)⟩⟩
theorem GtA.under (h : GtA W w rest ms cs raws vm vc) (b : Below w.heap.size w w') : GtA W w' rest ms cs raws vm vc :=
  h.sep ⟨b.os, b.tape, b.output, b.size, fun k hk _ => b.block k hk⟩ (h.inn.below b)
theorem GtA.rl (h : GtA W w rest ms cs raws vm vc) : RlAt (fun b => W.heap.size + 3 ≤ b) w ⟨ms, cs⟩ (.agg #[vm, vc]) :=
  rl_done h.rm h.rc ⟨h.len, fun i h1 h2 => ⟨(h.own i h1 h2).1, (h.own i h1 h2).2.1, strs_own (h.own i h1 h2).2.2⟩⟩
/-- What is kept when one row grows. -/
theorem GtA.grown_blocks (h : GtA W w rest ms cs raws vm vc) {T : TypeId} {b s n : Nat} {v : Value} {xs : List Value} (ho : w.ownsRow b T s v n xs) (hb : W.heap.size + 3 ≤ b) (hg : w.grownBy w' v.ownBlock) (hT : T ≠ 101) : Below W.heap.size W w' ∧ w'.heap[W.heap.size]? = some (.cells #[.slice none 0 0, .slice none 0 0] 27 (0, 0)) ∧ At 101 w' (W.heap.size + 1) rest ∧ w'.heap[W.heap.size + 1 + 1]? = some (.cells #[vm, vc] 27 (0, 0)) := by
  have hne : ∀ q, q < W.heap.size + 3 → v.ownBlock ≠ some q := fun q hq e => by have := Gn.own_block ho q e; omega
  have hlt := Gn.heap_lt h.box
  have hk : ∀ q, q < W.heap.size + 3 → w'.heap[q]? = w.heap[q]? := fun q hq => hg.block q (by omega) (fun e => hne q hq e.symm)
  exact ⟨⟨hg.os.trans h.bel.os, hg.tape.trans h.bel.tape, hg.output.trans h.bel.output, Nat.le_trans h.bel.size hg.size, fun q hq => (hk q (by omega)).trans (h.bel.block q hq)⟩, (hk _ (by omega)).trans h.res, h.inn.block (hk _ (by omega)), (hk _ (by omega)).trans h.box⟩
theorem set_box {w : World} {q i : Nat} {x : Value} (r : Nat) (hr : r ≠ q) : (w.setCell ⟨q, i, none⟩ x).heap[r]? = w.heap[r]? := Gn.set_keep _ _ _ (fun e => hr e.symm)
/-- One member more. -/
theorem GtA.snocM (h : GtA W w rest ms cs raws vm vc) {m : Mem} {v' : Value} (ho : w'.ownsRow (W.heap.size + 3) 45 3 v' (ms.length + 1) (cellsOf encM ms ++ encM m)) (hg : w.grownBy w' vm.ownBlock) : GtA W (w'.setCell ⟨W.heap.size + 1 + 1, 0, none⟩ v') rest (ms ++ [m]) cs raws v' vc := by
  obtain ⟨h1, h2, h3, h4⟩ := h.grown_blocks h.rm (Nat.le_refl _) hg (by decide)
  have hc := own_far h.rm h.rc (by decide) hg
  refine ⟨h1.setCell (by show W.heap.size ≤ W.heap.size + 1 + 1; omega) _, (set_box _ (by omega)).trans h2, h3.block (set_box _ (by omega)), Gn.heap_set h4 0 _, ?_, own_keep hc fun q hq => set_box q (by have := Gn.own_block hc q hq; omega), h.len, fun i i1 i2 => ?_⟩
  · rw [List.length_append, cellsOf_app]
    have e : cellsOf encM [m] = encM m := by simp [cellsOf]
    rw [e]
    exact own_keep ho fun q hq => set_box q (by have := Gn.own_block ho q hq; omega)
  · obtain ⟨a1, a2, a3⟩ := h.own i i1 i2
    have hs := own_far h.rm a3 (by decide) hg
    exact ⟨a1, a2, own_keep hs fun q hq => set_box q (by have := Gn.own_block hs q hq; omega)⟩
/-- One class more. -/
theorem GtA.snocC (h : GtA W w rest ms cs raws vm vc) {c : CRaw} {d : Cls} {v' : Value} (ho : w'.ownsRow (W.heap.size + 3) 53 3 v' (cs.length + 1) (cellsOf encC raws ++ encC c)) (hg : w.grownBy w' vc.ownBlock) (hd : c.name = d.name ∧ c.teacher = d.teacher ∧ w.ownsRow (W.heap.size + 3) 9 1 c.studs d.studs.length (d.studs.map Value.string)) : GtA W (w'.setCell ⟨W.heap.size + 1 + 1, 1, none⟩ v') rest ms (cs ++ [d]) (raws ++ [c]) vm v' := by
  obtain ⟨h1, h2, h3, h4⟩ := h.grown_blocks h.rc (Nat.le_refl _) hg (by decide)
  have hc := own_far h.rc h.rm (by decide) hg
  have hl := h.len
  refine ⟨h1.setCell (by show W.heap.size ≤ W.heap.size + 1 + 1; omega) _, (set_box _ (by omega)).trans h2, h3.block (set_box _ (by omega)), Gn.heap_set h4 1 _, own_keep hc fun q hq => set_box q (by have := Gn.own_block hc q hq; omega), ?_, by rw [List.length_append, List.length_append, hl]; rfl, fun i i1 i2 => ?_⟩
  · rw [List.length_append, cellsOf_app]
    have e : cellsOf encC [c] = encC c := by simp [cellsOf]
    rw [e]
    exact own_keep ho fun q hq => set_box q (by have := Gn.own_block ho q hq; omega)
  · by_cases hi : i < cs.length
    · rw [List.getElem_append_left (by omega), List.getElem_append_left hi]
      obtain ⟨a1, a2, a3⟩ := h.own i (by omega) hi
      have hs := own_far h.rc a3 (by decide) hg
      exact ⟨a1, a2, own_keep hs fun q hq => set_box q (by have := Gn.own_block hs q hq; omega)⟩
    · have e1 : (raws ++ [c])[i] = c := by
        rw [List.getElem_append_right (by omega)]; simp
      have e2 : (cs ++ [d])[i] = d := by
        rw [List.getElem_append_right (by omega)]; simp
      rw [e1, e2]
      have hs := own_far h.rc hd.2.2 (by decide) hg
      exact ⟨hd.1, hd.2.1, own_keep hs fun q hq => set_box q (by have := Gn.own_block hs q hq; omega)⟩
end
/-- Append of one struct of three cells, as a step of a region that draws. -/
theorem step_append3 {ops : Array Oper} {o : Oper} {a : Act} {K : Act → World → Prop} {Q : Exit → Act → World → Prop} {E : Prop} (w : World) (hgd : o.guard = none) (s x : Operand) (T E' : TypeId)
    (ho : o.op = .call { callee := .builtin .append, args := #[s, x], argTypes := #[T, T] }) (i : TypeInfo) (z : Value) (bytes : Nat) (hT : Tryz.prog.underlying T = some (.slice E')) (hi : Tryz.prog.info? E' = some i) (hz : i.zero = some z) (hsize : i.size = 3) (hby : i.bytes = bytes) (hzs : z.cells.size = 3)
    (base : Nat) (v : Value) (n : Nat) (xs : List Value) (hs : a.eval s = v) (hown : w.ownsRow base E' 3 v n xs) (ad : Addr) (c : Nat) (hx : a.eval x = .slice (some ad) 1 c) (news : List Value) (hl : news.length = 3) (hnews : ∀ j u, news[j]? = some u → w.cell? (ad.add j) = some u) (h1 : ∀ u ∈ news, u.oneCell' = true) (h63 : n + 1 ≤ maxLen) (hbytes : (n + 1) * bytes ≤ 140737488355328) (hb : base ≤ w.heap.size)
    (h : ∀ v' w', w'.ownsRow base E' 3 v' (n + 1) (xs ++ news) → w.grownBy w' v.ownBlock → K (a.put o.dst v') w') :
    if Region.wanted o (yielded ops a.tmps) = true then Oper.wp Tryz.prog o a w K Q else E := by
  have hw : Region.wanted o (yielded ops a.tmps) = true := by simp [Region.wanted, hgd]
  rw [if_pos hw]
  obtain ⟨v', w', hr, h2, h3, _⟩ := run_append_own (P := Tryz.prog) w base T o.type E' i z 3 bytes hT hi hz hsize hby hzs (by decide) v n xs hown ad 1 c news (by rw [hl]) hnews h1 h63 hbytes hb
  unfold Oper.wp execOp
  simp only [ho, resolve, invoke, builtin, Sem.run_bind, Sem.run_pure, Result.andThen_ok, List.map_toArray, List.map_cons, List.map_nil, hs, hx, hr]
  exact h v' w' h2 h3
end Go.Proofs.YtnmhgjoofgmcgaaGreat.Rl
