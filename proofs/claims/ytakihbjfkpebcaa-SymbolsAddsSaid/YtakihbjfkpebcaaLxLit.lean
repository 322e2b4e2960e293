/-
  What a literal means, in plain words; and what the walks want of rows.
-/
import Derived.Test.YtakihbjfkpebcaaLxEsc2
import Derived.Lib.AppendStr
namespace Go.Proofs.Ytakihbjfkpebcaa.Lx
open Go.RowKit
set_option maxRecDepth 100000

/-- A literal behind its first byte q: its bytes, if it is one, and how many bytes are taken. -/
def rlit (q : UInt8) : Nat → List UInt8 → Option (List UInt8) × Nat
  | 0, _ => (none, 0)
  | _ + 1, [] => (none, 0)
  | f + 1, c :: r =>
    if plainN c.toNat = false then (none, 0)
    else if c = q then (some [], 1)
    else if c.toNat = 92 then
      if (resc r).2.1 = true then ((rlit q f (r.drop (resc r).2.2)).1.map (UInt8.ofNat (resc r).1 :: ·), 1 + (resc r).2.2 + (rlit q f (r.drop (resc r).2.2)).2)
      else (none, 1 + (resc r).2.2)
    else ((rlit q f r).1.map (c :: ·), 1 + (rlit q f r).2)

theorem rlit_list (q : UInt8) (f : Nat) : ∀ (l : List UInt8) (h : 0 < l.length), rlit q (f + 1) l =
    if plainN l[0].toNat = false then (none, 0)
    else if l[0] = q then (some [], 1)
    else if l[0].toNat = 92 then
      if (resc (l.drop 1)).2.1 = true then ((rlit q f (l.drop (1 + (resc (l.drop 1)).2.2))).1.map (UInt8.ofNat (resc (l.drop 1)).1 :: ·), 1 + (resc (l.drop 1)).2.2 + (rlit q f (l.drop (1 + (resc (l.drop 1)).2.2))).2)
      else (none, 1 + (resc (l.drop 1)).2.2)
    else ((rlit q f (l.drop 1)).1.map (l[0] :: ·), 1 + (rlit q f (l.drop 1)).2)
  | [], h => absurd h (by simp)
  | c :: r, _ => by
    have e : ∀ k, (c :: r).drop (1 + k) = r.drop k := fun k => by rw [Nat.add_comm]; rfl
    rw [rlit, e]; rfl

theorem rlit_step (q : UInt8) (f : Nat) (X : ByteArray) (h : 0 < X.size) : rlit q (f + 1) (bs X) =
    if plainN X[0].toNat = false then (none, 0)
    else if X[0] = q then (some [], 1)
    else if X[0].toNat = 92 then
      if (resc (bs (cut X 1))).2.1 = true then ((rlit q f (bs (cut X (1 + (resc (bs (cut X 1))).2.2)))).1.map (UInt8.ofNat (resc (bs (cut X 1))).1 :: ·), 1 + (resc (bs (cut X 1))).2.2 + (rlit q f (bs (cut X (1 + (resc (bs (cut X 1))).2.2)))).2)
      else (none, 1 + (resc (bs (cut X 1))).2.2)
    else ((rlit q f (bs (cut X 1))).1.map (X[0] :: ·), 1 + (rlit q f (bs (cut X 1))).2) := by
  rw [bs_cut, bs_cut]; exact rlit_list q f (bs X) h
theorem rlit_nil (q : UInt8) (f : Nat) (X : ByteArray) (h : X.size = 0) : rlit q f (bs X) = (none, 0) := by
  rw [empty_of h]
  cases f <;> rfl

theorem rdig_le (l : List UInt8) : (rdig l).2.2 ≤ l.length := by
  cases h : (rdig l).2.1
  · rw [rdig_no l h]; simp
  · obtain ⟨d, e, hd, hl⟩ := rdig_yes l h; rw [e]; exact hl
theorem rpair_le (l : List UInt8) : (rpair l).2.2 ≤ l.length := by
  unfold rpair
  split
  · rename_i h
    obtain ⟨d, e, hd, hl⟩ := rdig_yes l h
    have := rdig_le (l.drop 1)
    rw [List.length_drop] at this
    simp only; omega
  · simp
theorem rpair_lt (l : List UInt8) : (rpair l).1 < 256 := by
  unfold rpair
  split
  · have := rdig_lt l
    have := rdig_lt (l.drop 1)
    simp only; omega
  · simp
theorem resc_le (l : List UInt8) : (resc l).2.2 ≤ l.length := by
  cases l with
  | nil => simp [resc]
  | cons c r =>
    have := rpair_le r
    rw [resc]
    split
    · simp
    · split
      · simp
      · split
        · simp
        · split
          · simp only [List.length_cons]; omega
          · simp
theorem resc_lt (l : List UInt8) : (resc l).1 < 256 := by
  cases l with
  | nil => simp [resc]
  | cons c r =>
    have := rpair_lt r
    have := c.toNat_lt
    rw [resc]
    split
    · simp only; omega
    · split
      · simp
      · split
        · simp
        · split
          · simp only; omega
          · simp

theorem cut_size (t : ByteArray) (n : Nat) : (cut t n).size = t.size - n := by
  rw [← bs_len, bs_cut, List.length_drop, bs_len]

def u8v (c : UInt8) : Value := .int .u8 (c.toNat : Int)
theorem u8v_of (n : Nat) (h : n < 256) : u8v (UInt8.ofNat n) = .int .u8 (n : Int) := by
  unfold u8v
  rw [UInt8.toNat_ofNat']
  congr 2
  exact_mod_cast Nat.mod_eq_of_lt h

/-- How much a scanner has left. -/
def leftOf (w : World) (g : Nat) : Nat := match w.cell? ⟨g, 0, none⟩ with | some (.string t) => t.size | _ => 0
theorem leftOf_is {w : World} {g : Nat} {t : ByteArray} {line col : Nat} (h : Sc w g t line col) : leftOf w g = t.size := by
  have c0 : w.cell? ⟨g, 0, none⟩ = some (.string t) := cell_of_row w g 0 _ _ (0, 0) h
  rw [leftOf, c0]

theorem slice_of {w : World} {base : Nat} {e : TypeId} {size : Nat} {v : Value} {n : Nat} {xs : List Value} (h : w.ownsRow base e size v n xs) : ∃ A cap, v = .slice A n cap := by
  rcases h.2 with ⟨rfl, rfl⟩ | ⟨g, cap, cur, rfl, _⟩
  · exact ⟨_, _, rfl⟩
  · exact ⟨_, _, rfl⟩
theorem not_row {w : World} {base : Nat} {e t : TypeId} {size : Nat} {v : Value} {n g : Nat} {xs : List Value} {cs : Array Value} {fr : Nat × Nat} (h : w.ownsRow base e size v n xs) (hg : w.heap[g]? = some (.cells cs t fr)) (hne : e ≠ t) : some g ≠ v.ownBlock := by
  rcases h.2 with ⟨rfl, _⟩ | ⟨g', cap, cur, rfl, _, hh, _⟩
  · simp [Value.ownBlock]
  · intro he
    have : g = g' := by simpa [Value.ownBlock] using he
    subst this
    rw [hg] at hh
    injection hh with hh
    injection hh with _ ht
    exact hne ht.symm
theorem heap_lt {w : World} {g : Nat} {o : Obj} (h : w.heap[g]? = some o) : g < w.heap.size := by
  rcases Nat.lt_or_ge g w.heap.size with hlt | hge
  · exact hlt
  · rw [Array.getElem?_eq_none hge] at h; cases h
theorem grown_keeps {w w1 : World} {base : Nat} {e t : TypeId} {size : Nat} {v : Value} {n g : Nat} {xs : List Value} {cs : Array Value} {fr : Nat × Nat} (hgrow : w.grownBy w1 v.ownBlock) (h : w.ownsRow base e size v n xs) (hg : w.heap[g]? = some (.cells cs t fr)) (hne : e ≠ t) : w1.heap[g]? = some (.cells cs t fr) :=
  (hgrow.block g (heap_lt hg) (not_row h hg hne)).trans hg
theorem Sep.own {w w' : World} {g : Nat} (h : Sep g w.heap.size w w') {base : Nat} {e t : TypeId} {size : Nat} {v : Value} {n : Nat} {xs : List Value} {cs : Array Value} {fr : Nat × Nat} (hown : w.ownsRow base e size v n xs) (hg : w.heap[g]? = some (.cells cs t fr)) (hne : e ≠ t) : w'.ownsRow base e size v n xs := by
  refine ⟨hown.1, ?_⟩
  rcases hown.2 with h2 | ⟨r, cp, cur, hv, hbr, hhr, hrest⟩
  · exact .inl h2
  · refine .inr ⟨r, cp, cur, hv, hbr, (h.block r (heap_lt hhr) (fun e2 => ?_)).trans hhr, hrest⟩
    subst e2
    rw [hhr] at hg
    injection hg with hg
    injection hg with _ e3
    exact hne e3
theorem Sep.alloc {g c : Nat} {a w : World} (h : Sep g c a w) (hc : c ≤ w.heap.size) (o : Obj) : Sep g c a (w.alloc o) := h.trans (Sep.of_below ((Below.refl _ _).alloc hc o))
theorem Sep.grown {g c : Nat} {a w w' : World} {row : Option Nat} (h : Sep g c a w) (hg : w.grownBy w' row) (hc : c ≤ w.heap.size) (hr : ∀ k, row = some k → c ≤ k) : Sep g c a w' :=
  h.trans ⟨hg.os, hg.tape, hg.output, hg.size, fun k hk _ => hg.block k (by omega) (fun e => by have := hr k e.symm; omega)⟩
theorem own_block {w : World} {base : Nat} {e : TypeId} {size : Nat} {v : Value} {n : Nat} {xs : List Value} (h : w.ownsRow base e size v n xs) : ∀ k, v.ownBlock = some k → base ≤ k := by
  intro k hk
  rcases h.2 with ⟨h1, _⟩ | ⟨r', cp, cur, h1, h2, _⟩
  · rw [h1] at hk; simp [Value.ownBlock] at hk
  · rw [h1] at hk; simp [Value.ownBlock] at hk; omega

set_option maxRecDepth 100000 in
theorem own_string (w : World) (c : Nat) (A : Option Addr) (cap : Nat) (l : List UInt8) (hown : w.ownsRow c 5 1 (.slice A l.length cap) l.length (l.map u8v)) :
    (convert 148 9 (.slice A l.length cap)).run Try.prog w = .ok (.string ⟨l.toArray⟩) w := by
  rcases hown.2 with ⟨h1, h2⟩ | ⟨r, cp, cur, hv, _⟩
  · have hl : l = [] := List.eq_nil_of_length_eq_zero (by simpa using h2)
    subst hl
    injection h1 with h1 h3 h4
    subst h1
    exact run_convert_bytes_nil _ 148 5 Try.underlying148 Try.underlying5 _ _ 9 Try.underlying9
  · have hA : A = some ⟨r, 0, none⟩ := by injection hv
    subst hA
    have hc := hown.cells (g := r) rfl
    exact run_convert_bytes_back (P := Try.prog) w 148 9 5 ⟨r, 0, none⟩ cap l Try.underlying148 Try.underlying5 Try.underlying9 (fun j hj => by
      refine (hc j _ ?_)
      rw [List.getElem?_map, List.getElem?_eq_getElem hj]
      rfl)

theorem u8info : (Try.prog.info? 5).map (fun i => (i.zero, i.size, i.bytes)) = some (some (.int .u8 0), 1, 1) := by kernel_rfl

end Go.Proofs.Ytakihbjfkpebcaa.Lx
