/-
  What an Out holds, and the walks of its methods.
-/
import Derived.Test.YtgbpofgmomglfaaDoorOctPut
import Derived.Lib.AppendStr
import Derived.Deep.AppendLies
import Derived.Deep.RegionHeld3
import Derived.Deep.RegionLaw
import Derived.BigQuiet
import Derived.Deep.QuietTactic
namespace Go.Proofs.YtgbpofgmomglfaaDoor.Oct
set_option maxRecDepth 100000
open Go.RowKit

theorem u8info : (Tryd.prog.info? 5).map (fun i => (i.zero, i.size, i.bytes)) = some (some (.int .u8 0), 1, 1) := by kernel_rfl

/-- Below block c, and but for block g, the world w' is as w was. -/
structure Sep (g c : Nat) (w w' : World) : Prop where
  os : w'.os = w.os
  tape : w'.tape = w.tape
  output : w'.output = w.output
  size : w.heap.size ≤ w'.heap.size
  block : ∀ k, k < c → k ≠ g → w'.heap[k]? = w.heap[k]?
section
variable {g c : Nat} {w w' a b : World}
theorem Sep.refl (g c : Nat) (w : World) : Sep g c w w := ⟨rfl, rfl, rfl, Nat.le_refl _, fun _ _ _ => rfl⟩
theorem Sep.trans {d : World} (h : Sep g c a b) (k : Sep g c b d) : Sep g c a d :=
  ⟨k.os.trans h.os, k.tape.trans h.tape, k.output.trans h.output, Nat.le_trans h.size k.size, fun i hi hg => (k.block i hi hg).trans (h.block i hi hg)⟩
theorem Sep.drew (h : Sep g c a w) : Sep g c a w.drew := ⟨h.os, h.tape, h.output, h.size, h.block⟩
theorem Sep.drewN (h : Sep g c a w) (n : Nat) : Sep g c a (w.drewN n) := ⟨h.os, h.tape, h.output, h.size, h.block⟩
theorem Sep.of_below (h : Below c w w') : Sep g c w w' := ⟨h.os, h.tape, h.output, h.size, fun k hk _ => h.block k hk⟩
theorem Sep.below (h : Sep g c w w') {B : Nat} (hg : B ≤ g) (hc : B ≤ c) : Below B w w' := ⟨h.os, h.tape, h.output, h.size, fun k hk => h.block k (by omega) (by omega)⟩
theorem Sep.alloc (h : Sep g c a w) (hc : c ≤ w.heap.size) (o : Obj) : Sep g c a (w.alloc o) := h.trans (Sep.of_below ((Below.refl _ _).alloc hc o))
theorem Sep.setCell (h : Sep g c a w) {p : Addr} (hp : p.block = g ∨ c ≤ p.block) (u : Value) : Sep g c a (w.setCell p u) :=
  h.trans ⟨rfl, rfl, rfl, by simp [World.setCell], fun k hk hg => Below.heap_setCell _ _ _ _ (by omega)⟩
theorem Sep.grown {row : Option Nat} (h : Sep g c a w) (hg : w.grownBy w' row) (hc : c ≤ w.heap.size) (hr : ∀ k, row = some k → c ≤ k) : Sep g c a w' :=
  h.trans ⟨hg.os, hg.tape, hg.output, hg.size, fun k hk _ => hg.block k (by omega) (fun e => by have := hr k e.symm; omega)⟩
end

/-- Is a block's element type one of those of which an Out is made? -/
def Ours (t : TypeId) : Prop := t = 5 ∨ t = 134 ∨ t = 79
/-- The same of an Out's calls: besides, no block of another element type than those of an Out has turned. -/
structure OSep (g c : Nat) (w w' : World) : Prop where
  sep : Sep g c w w'
  far : ∀ (k : Nat) (cs : Array Value) (t : TypeId) (fr : Nat × Nat), w.heap[k]? = some (Obj.cells cs t fr) → ¬ Ours t → w'.heap[k]? = w.heap[k]?
section
variable {g c : Nat} {w w' a b : World}
theorem OSep.size (h : OSep g c w w') : w.heap.size ≤ w'.heap.size := h.sep.size
theorem OSep.refl (g c : Nat) (w : World) : OSep g c w w := ⟨Sep.refl g c w, fun _ _ _ _ _ _ => rfl⟩
theorem OSep.trans {d : World} (h : OSep g c a b) (k : OSep g c b d) : OSep g c a d :=
  ⟨h.sep.trans k.sep, fun i cs t fr hi ht => by
    have e := h.far i cs t fr hi ht
    exact (k.far i cs t fr (e.trans hi) ht).trans e⟩
theorem OSep.drew (h : OSep g c a w) : OSep g c a w.drew := ⟨h.sep.drew, h.far⟩
theorem OSep.drewN (h : OSep g c a w) (n : Nat) : OSep g c a (w.drewN n) := ⟨h.sep.drewN n, h.far⟩
theorem OSep.of_below (h : Below w.heap.size w w') (hc : c ≤ w.heap.size) : OSep g c w w' := ⟨Sep.of_below (h.mono hc), fun k cs t fr hk _ => h.block k (by
  rcases Nat.lt_or_ge k w.heap.size with hlt | hge
  · exact hlt
  · rw [Array.getElem?_eq_none hge] at hk; cases hk)⟩
theorem OSep.below (h : OSep g c w w') {B : Nat} (hg : B ≤ g) (hc : B ≤ c) : Below B w w' := h.sep.below hg hc
theorem OSep.alloc (h : OSep g c a w) (hc : c ≤ w.heap.size) (o : Obj) : OSep g c a (w.alloc o) := h.trans (OSep.of_below ((Below.refl _ _).alloc (Nat.le_refl _) o) hc)
theorem OSep.setCell (h : OSep g c a w) {p : Addr} (hp : p.block = g ∨ c ≤ p.block) {cs : Array Value} {t : TypeId} {fr : Nat × Nat} (hb : w.heap[p.block]? = some (.cells cs t fr)) (ht : Ours t) (u : Value) : OSep g c a (w.setCell p u) :=
  h.trans ⟨(Sep.refl g c w).setCell hp u, fun k cs' t' fr' hk hn => Below.heap_setCell _ _ _ _ (by
    rintro rfl
    rw [hb] at hk
    injection hk with hk
    injection hk with _ e
    exact hn (e ▸ ht))⟩
theorem OSep.grown {row : Option Nat} (h : OSep g c a w) (hg : w.grownBy w' row) (hc : c ≤ w.heap.size) (hr : ∀ k, row = some k → c ≤ k ∧ ∃ cs fr, w.heap[k]? = some (.cells cs 5 fr)) : OSep g c a w' :=
  h.trans ⟨(Sep.refl g c w).grown hg hc (fun k hk => (hr k hk).1), fun k cs t fr hk hn => hg.block k (by
    rcases Nat.lt_or_ge k w.heap.size with hlt | hge
    · exact hlt
    · rw [Array.getElem?_eq_none hge] at hk; cases hk) (fun e => by
      obtain ⟨_, cs', fr', h3⟩ := hr k e.symm
      rw [h3] at hk
      injection hk with hk
      injection hk with _ e2
      exact hn (.inl e2.symm))⟩
end

def obj (p s b : Value) : Obj := .cells #[p, s, b] 79 (0, 0)

/-- Block g is an Out that has written l; what it owns besides lies from block c on. -/
def OutIs (w : World) (g c : Nat) (l : List UInt8) : Prop :=
  g < c ∧ c ≤ w.heap.size ∧
  ((l = [] ∧ w.heap[g]? = some (obj (.pointer none) (.int .i64 0) (.bool false))) ∨
   (∃ h A cap, c ≤ h ∧ w.heap[g]? = some (obj (.pointer (some ⟨h, 0, none⟩)) (.int .i64 l.length) (.bool false)) ∧
      w.heap[h]? = some (.cells #[.slice A l.length cap] 134 (0, 0)) ∧ w.ownsRow c 5 1 (.slice A l.length cap) l.length (l.map u8v)))
/-- Block g is an Out that was spoilt. -/
def OutBad (w : World) (g : Nat) : Prop := w.heap[g]? = some (obj (.pointer none) (.int .i64 0) (.bool true))

theorem strCells_bs (s : ByteArray) : Lib.strCells s = (bs s).map u8v := rfl

theorem slice_of {w : World} {base : Nat} {e : TypeId} {size : Nat} {v : Value} {n : Nat} {xs : List Value} (h : w.ownsRow base e size v n xs) : ∃ A cap, v = .slice A n cap := by
  rcases h.2 with ⟨rfl, rfl⟩ | ⟨g, cap, cur, rfl, _⟩
  · exact ⟨_, _, rfl⟩
  · exact ⟨_, _, rfl⟩
/-- A block of another type than the row's is not that row. -/
theorem not_row {w : World} {base : Nat} {e t : TypeId} {size : Nat} {v : Value} {n g : Nat} {xs : List Value} {cs : Array Value} {fr : Nat × Nat} (h : w.ownsRow base e size v n xs) (hg : w.heap[g]? = some (.cells cs t fr)) (hne : e ≠ t) : some g ≠ v.ownBlock := by
  rcases h.2 with ⟨rfl, _⟩ | ⟨g', cap, cur, rfl, _, hh, _⟩
  · simp [Value.ownBlock]
  · intro he
    have : g = g' := by simpa [Value.ownBlock] using he
    subst this
    rw [hg] at hh
    injection hh with hh
    injection hh with _ ht
    exact hne ht.symm
theorem heap_lt {w : World} {g : Nat} {o : Obj} (h : w.heap[g]? = some o) : g < w.heap.size := by
  rcases Nat.lt_or_ge g w.heap.size with hlt | hge
  · exact hlt
  · rw [Array.getElem?_eq_none hge] at h; cases h
/-- Such a block is as it was behind an append to the row. -/
theorem grown_keeps {w w1 : World} {base : Nat} {e t : TypeId} {size : Nat} {v : Value} {n g : Nat} {xs : List Value} {cs : Array Value} {fr : Nat × Nat} (hgrow : w.grownBy w1 v.ownBlock) (h : w.ownsRow base e size v n xs) (hg : w.heap[g]? = some (.cells cs t fr)) (hne : e ≠ t) : w1.heap[g]? = some (.cells cs t fr) :=
  (hgrow.block g (heap_lt hg) (not_row h hg hne)).trans hg

/-- The append of a string's bytes, at a step of a region that draws. -/
theorem step_append_string {P : Program} (w : World) {ops : Array Oper} {o : Oper} {a : Act} {K : Act → World → Prop} {Q : Exit → Act → World → Prop} {E : Prop} (hgd : o.guard = none) (sl x : Operand) (t u : TypeId)
    (ho : o.op = .call { callee := .builtin .append, args := #[sl, x], argTypes := #[t, u] })
    (base : Nat) (e : TypeId) (i : TypeInfo) (ht : P.underlying t = some (.slice e)) (hu : P.underlying u = some .string) (hi : P.info? e = some i) (hz : i.zero = some (.int .u8 0))
    (hsize : i.size = 1) (hby : i.bytes = 1)
    (v : Value) (n : Nat) (xs : List Value) (hs : a.eval sl = v) (hown : w.ownsRow base e 1 v n xs) (s : ByteArray) (hx : a.eval x = .string s)
    (h63 : n + s.size ≤ maxLen) (hbytes : n + s.size ≤ 140737488355328) (hbase : base ≤ w.heap.size)
    (h : ∀ A' cap' w', w'.ownsRow base e 1 (.slice A' (n + s.size) cap') (n + s.size) (xs ++ Lib.strCells s) → w.grownBy w' v.ownBlock → K (a.put o.dst (.slice A' (n + s.size) cap')) w') :
    if Region.wanted o (yielded ops a.tmps) = true then Oper.wp P o a w K Q else E := by
  have hw : Region.wanted o (yielded ops a.tmps) = true := by simp [Region.wanted, hgd]
  rw [if_pos hw]
  obtain ⟨v', w', hr, h2, h3, _⟩ := Lib.run_append_own_string (P := P) w base t u o.type e i ht hu hi hz hsize hby v n xs hown s h63 hbytes hbase
  unfold Oper.wp execOp
  simp only [ho, resolve, invoke, builtin, Sem.run_bind, Sem.run_pure, Result.andThen_ok, List.map_toArray, List.map_cons, List.map_nil, hs, hx, hr]
  obtain ⟨A', cap', rfl⟩ := slice_of h2
  exact h A' cap' w' h2 h3

theorem heap_set {w : World} {g : Nat} {cs : Array Value} {t : TypeId} {fr : Nat × Nat} (h : w.heap[g]? = some (.cells cs t fr)) (i : Nat) (u : Value) : (w.setCell ⟨g, i, none⟩ u).heap[g]? = some (.cells (cs.setIfInBounds i u) t fr) := by
  simp [World.setCell, Array.getElem?_modify, h]
theorem own_set {w : World} {base : Nat} {e t : TypeId} {size : Nat} {v : Value} {n g : Nat} {xs : List Value} {cs : Array Value} {fr : Nat × Nat} (h : w.ownsRow base e size v n xs) (hg : w.heap[g]? = some (.cells cs t fr)) (hne : e ≠ t) (i : Nat) (u : Value) : (w.setCell ⟨g, i, none⟩ u).ownsRow base e size v n xs := by
  have hr := not_row h hg hne
  refine ⟨h.1, ?_⟩
  rcases h.2 with h2 | ⟨g', cap, cur, rfl, hb, hh, hrest⟩
  · exact .inl h2
  · refine .inr ⟨g', cap, cur, rfl, hb, ?_, hrest⟩
    rw [Below.heap_setCell]
    · exact hh
    · intro he
      exact hr (by simp [Value.ownBlock, he])

theorem wrote_of {g c h : Nat} {A A' : Option Addr} {cap cap' : Nat} {l : List UInt8} {s : ByteArray} {w w1 : World} (hgc : g < c) (hcw : c ≤ w.heap.size) (hch : c ≤ h)
    (hg1 : w1.heap[g]? = some (obj (.pointer (some ⟨h, 0, none⟩)) (.int .i64 l.length) (.bool false)))
    (hh1 : w1.heap[h]? = some (.cells #[.slice A l.length cap] 134 (0, 0)))
    (hown1 : w1.ownsRow c 5 1 (.slice A' (l.length + s.size) cap') (l.length + s.size) (l.map u8v ++ Lib.strCells s))
    {W : World} {wd : World} (hWd : wd.heap = W.heap) (hgrow : wd.grownBy w1 (Value.slice A l.length cap).ownBlock) (hown : W.ownsRow c 5 1 (.slice A l.length cap) l.length (l.map u8v)) (hs : OSep g c w wd) :
    OutIs ((w1.setCell ⟨h, 0, none⟩ (.slice A' (l.length + s.size) cap')).setCell ⟨g, 1, none⟩ (.int .i64 ((l.length : Int) + (s.size : Int)))) g c (l ++ bs s) ∧
    OSep g c w ((w1.setCell ⟨h, 0, none⟩ (.slice A' (l.length + s.size) cap')).setCell ⟨g, 1, none⟩ (.int .i64 ((l.length : Int) + (s.size : Int)))) := by
  have hgh : g ≠ h := by omega
  have hlen : (l ++ bs s).length = l.length + s.size := by rw [List.length_append, bs_length]
  have hsep : OSep g c w w1 := hs.grown hgrow (Nat.le_trans hcw hs.size) (fun k hk => by
    rcases hown.2 with ⟨hv, _⟩ | ⟨g', cap', cur, hv, hb, hh, _⟩
    · rw [hv] at hk; simp [Value.ownBlock] at hk
    · rw [hv] at hk
      simp [Value.ownBlock] at hk
      subst hk
      exact ⟨hb, cur, (0, 0), by rw [hWd]; exact hh⟩)
  have hg2 : (w1.setCell ⟨h, 0, none⟩ (.slice A' (l.length + s.size) cap')).heap[g]? = some (obj (.pointer (some ⟨h, 0, none⟩)) (.int .i64 l.length) (.bool false)) := by
    rw [Below.heap_setCell _ _ _ _ hgh]; exact hg1
  have hh2 := heap_set hh1 0 (.slice A' (l.length + s.size) cap')
  have ho2 := own_set hown1 hh1 (by decide) 0 (.slice A' (l.length + s.size) cap')
  refine ⟨⟨hgc, Nat.le_trans hcw (by simpa [World.setCell] using hsep.size), .inr ⟨h, A', cap', hch, ?_, ?_, ?_⟩⟩, OSep.setCell (p := ⟨g, 1, none⟩) (OSep.setCell (p := ⟨h, 0, none⟩) hsep (.inr hch) hh1 (.inr (.inl rfl)) _) (.inl rfl) hg2 (.inr (.inr rfl)) _⟩
  · rw [heap_set hg2, hlen]
    rfl
  · rw [Below.heap_setCell _ _ _ _ (Ne.symm hgh), hh2, hlen]
    rfl
  · rw [hlen, List.map_append, ← strCells_bs]
    exact own_set ho2 hg2 (by decide) 1 _

/-- What write leaves. -/
def Wrote (w : World) (g c : Nat) (l : List UInt8) (e : Ending) (w' : World) : Prop := e = .returned (.tuple #[]) ∧ OutIs w' g c l ∧ OSep g c w w'

set_option maxRecDepth 100000 in
set_option maxHeartbeats 1000000 in
/-- Onto a sheet that is there. -/
theorem write_more (g c h : Nat) (A : Option Addr) (cap : Nat) (l : List UInt8) (s : ByteArray) (w : World) (hgc : g < c) (hcw : c ≤ w.heap.size) (hch : c ≤ h)
    (hg : w.heap[g]? = some (obj (.pointer (some ⟨h, 0, none⟩)) (.int .i64 l.length) (.bool false)))
    (hh : w.heap[h]? = some (.cells #[.slice A l.length cap] 134 (0, 0)))
    (hown : w.ownsRow c 5 1 (.slice A l.length cap) l.length (l.map u8v)) (hb : l.length + s.size ≤ 140737488355328) :
    Calls Tryd.prog 55 #[.pointer (some ⟨g, 0, none⟩), .string s] w (Wrote w g c (l ++ bs s)) := by
  obtain ⟨i0, hi0, hz0, hz1, hz2⟩ := info_parts u8info
  have c0 : w.cell? ⟨g, 0, none⟩ = some (.pointer (some ⟨h, 0, none⟩)) := cell_of_row w g 0 _ _ (0, 0) hg
  have c1 : w.cell? ⟨g, 1, none⟩ = some (.int .i64 l.length) := cell_of_row w g 1 _ _ (0, 0) hg
  have c2 : w.cell? ⟨g, 2, none⟩ = some (.bool false) := cell_of_row w g 2 _ _ (0, 0) hg
  have d0 : w.cell? ⟨h, 0, none⟩ = some (.slice A l.length cap) := cell_of_row w h 0 _ _ (0, 0) hh
  have hgh : ¬ g = h := by omega
  have hhg : ¬ h = g := by omega
  have HG := Lib.hid hg
  have HH := Lib.hid hh
  have HO := Lib.hid hown
  clear hg hh hown
  go_enter Tryd.func55, Tryd.ntmps55
  go_wp2
  go_quiet (fail)
  go_wp2
  go_region_law (refine step_append_string _ rfl (.tmp 50) (.tmp 51) 91 9 rfl c 5 i0 Tryd.underlying91 Tryd.underlying9 hi0 hz0 hz1 hz2 (.slice A l.length cap) l.length (l.map u8v) (by simp [Act.eval]) HO.out s (by simp [Act.eval]) (by unfold maxLen; omega) hb hcw ?_; intro A' cap' w1 hown1 hgrow; have hg1 := grown_keeps hgrow HO.out HG.out (by decide); have hh1 := grown_keeps hgrow HO.out HH.out (by decide); have e0 := cell_of_row w1 g 0 _ _ _ hg1; have e1 := cell_of_row w1 g 1 _ _ _ hg1; have e2 := cell_of_row w1 h 0 _ _ _ hh1; have e3 : w1.frozen? ⟨h, 0, none⟩ = false := (by simp [World.frozen?, hh1]); have e4 : w1.frozen? ⟨g, 1, none⟩ = false := (by simp [World.frozen?, hg1]); have HG1 := Lib.hid hg1; have HH1 := Lib.hid hh1; have HO1 := Lib.hid hown1; have HGR := Lib.hid hgrow; clear hg1 hh1 hown1 hgrow)
  all_goals go_wp2
  all_goals go_end0
  all_goals exact ⟨rfl, wrote_of hgc hcw hch HG1.out HH1.out HO1.out (by rfl) HGR.out HO.out (by first | exact (OSep.refl _ _ _).drewN _ | exact ((OSep.refl _ _ _).drewN _).drew)⟩

end Go.Proofs.YtgbpofgmomglfaaDoor.Oct
