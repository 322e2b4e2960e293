/-
  Layer 18: the rounds of RollTurned in plain words; pairs as they are handed in.
-/
import Derived.Test.YtdkcfhmdgignhaaRlTn
import Derived.Test.YtdkcfhmdgignhaaRlDs
namespace Go.Proofs.Ytdkcfhmdgignhaa.Rl
open Go.RowKit Go.ChangeShapes Go.WideShapes
set_option maxRecDepth 100000
set_option linter.unusedSimpArgs false
set_option linter.unusedVariables false
def remN (z : Int) (n : Nat) : Nat := ((z.tmod n + n).tmod n).toNat
theorem remN_is (z : Int) (n : Nat) (hn : 0 < n) : ((remN z n : Nat) : Int) = (z.tmod n + n).tmod n ∧ remN z n < n ∧ -(n : Int) < z.tmod n ∧ z.tmod n < n := by
  have h1 := Int.tmod_lt_of_pos z (show (0 : Int) < n by omega)
  have h2 : -(n : Int) < z.tmod n := Int.lt_tmod_of_pos z (show (0 : Int) < n by omega)
  have h3 := Int.tmod_nonneg (a := z.tmod n + n) n (by omega)
  have h4 := Int.tmod_lt_of_pos (z.tmod n + n) (show (0 : Int) < n by omega)
  unfold remN
  omega
def xB (k : Nat) : ByteArray := ⟨#[UInt8.ofNat (97 + k)]⟩
def cB (k : Nat) : ByteArray := ⟨#[99, UInt8.ofNat (48 + k)]⟩
theorem xB_good : ∀ k, k < 9 → Lx.goodB (Lx.bs (xB k)) = true ∧ xB k ≠ tt := by
  intro k hk
  have h : k = 0 ∨ k = 1 ∨ k = 2 ∨ k = 3 ∨ k = 4 ∨ k = 5 ∨ k = 6 ∨ k = 7 ∨ k = 8 := by omega
  rcases h with rfl | rfl | rfl | rfl | rfl | rfl | rfl | rfl | rfl <;> exact ⟨rfl, by decide⟩
theorem cB_good : ∀ k, k < 4 → Lx.goodB (Lx.bs (cB k)) = true := by
  intro k hk
  have h : k = 0 ∨ k = 1 ∨ k = 2 ∨ k = 3 := by omega
  rcases h with rfl | rfl | rfl | rfl <;> rfl
section
variable (l : List (Int × Int)) (n : Nat) (f : Nat → Nat)
def xf (j : Nat) : ByteArray := xB (remN (l.getD j (0, 0)).1 9)
def cf (j : Nat) : ByteArray := cB (remN (l.getD j (0, 0)).2 4)
theorem xf_good (j : Nat) : Lx.goodB (Lx.bs (xf l j)) = true ∧ xf l j ≠ tt := xB_good _ (remN_is _ 9 (by omega)).2.1
theorem cf_good (j : Nat) : Lx.goodB (Lx.bs (cf l j)) = true := cB_good _ (remN_is _ 4 (by omega)).2.1
def XI (i : Nat) (y : ByteArray) : Prop := ∃ j, j < i ∧ y = xf l (f j)
def CI (i : Nat) (y : ByteArray) : Prop := ∃ j, j < i ∧ y = cf l (f j)
def SI (i : Nat) (c y : ByteArray) : Prop := ∃ j, j < i ∧ c = cf l (f j) ∧ y = xf l (f j)
def no1 (_ : ByteArray) : Prop := False
def no2 (_ _ : ByteArray) : Prop := False
/-- What stands in pass p before round i. -/
def StT (p i : Nat) (r : Rol) : Prop :=
  (p = 0 ∧ Tn (XI l f i) no1 no2 (1 + i) 0 r) ∨ (p = 1 ∧ Tn (XI l f n) (CI l f i) no2 (1 + n) i r) ∨ (p = 2 ∧ Tn (XI l f n) (CI l f n) (SI l f i) (1 + n + i) n r) ∨ (p = 3 ∧ i = 0 ∧ Tn (XI l f n) (CI l f n) (SI l f n) (1 + n + n) n r)
def stepM (p : Nat) (r : Rol) (x c : ByteArray) : Except Nat Rol := if p = 0 then enrolM r x 1 else if p = 1 then openM r c tt else joinM r c x
variable {l n f}
theorem StT.sized {p i : Nat} {r : Rol} (h : StT l n f p i r) (hn : n ≤ 20) (hi : i ≤ n) : Sized r := by
  rcases h with ⟨_, h⟩ | ⟨_, h⟩ | ⟨_, h⟩ | ⟨_, _, h⟩
  all_goals exact h.sized (by omega) (by omega)
theorem xi_succ (i : Nat) (y : ByteArray) : (y = xf l (f i) ∨ XI l f i y) ↔ XI l f (i + 1) y := by
  constructor
  · rintro (e | ⟨j, hj, e⟩)
    · exact ⟨i, by omega, e⟩
    · exact ⟨j, by omega, e⟩
  · rintro ⟨j, hj, e⟩
    by_cases h : j = i
    · subst h; exact .inl e
    · exact .inr ⟨j, by omega, e⟩
theorem ci_succ (i : Nat) (y : ByteArray) : (y = cf l (f i) ∨ CI l f i y) ↔ CI l f (i + 1) y := by
  constructor
  · rintro (e | ⟨j, hj, e⟩)
    · exact ⟨i, by omega, e⟩
    · exact ⟨j, by omega, e⟩
  · rintro ⟨j, hj, e⟩
    by_cases h : j = i
    · subst h; exact .inl e
    · exact .inr ⟨j, by omega, e⟩
theorem si_succ (i : Nat) (c y : ByteArray) : ((c = cf l (f i) ∧ y = xf l (f i)) ∨ SI l f i c y) ↔ SI l f (i + 1) c y := by
  constructor
  · rintro (e | ⟨j, hj, e⟩)
    · exact ⟨i, by omega, e⟩
    · exact ⟨j, by omega, e⟩
  · rintro ⟨j, hj, e⟩
    by_cases h : j = i
    · subst h; exact .inl e
    · exact .inr ⟨j, by omega, e⟩
theorem Went.imp {R : Except Nat Rol} {r : Rol} {P Q : Rol → Prop} (h : Went R r P) (k : ∀ r, P r → Q r) : Went R r Q := Or.imp (fun h => ⟨h.1, k _ h.2⟩) (fun h => ⟨h.1, k _ h.2⟩) h
theorem StT.step {p i : Nat} {r : Rol} (h : StT l n f p i r) (hp : p < 3) (hn : n ≤ 20) (hi : i < n) : Went (stepM p r (xf l (f i)) (cf l (f i))) r (StT l n f p (i + 1)) := by
  rcases h with ⟨rfl, h⟩ | ⟨rfl, h⟩ | ⟨rfl, h⟩ | ⟨rfl, e, h⟩
  · exact (h.enrol (xf_good l _).2 (xf_good l _).1 (by omega)).imp fun r h => .inl ⟨rfl, h.same (xi_succ i) (fun _ => Iff.rfl) (fun _ _ => Iff.rfl) (by omega) (Nat.le_refl _)⟩
  · exact (h.open_ (c := cf l (f i)) (fun s e => e) (cf_good l _) (by omega)).imp fun r h => .inr (.inl ⟨rfl, h.same (fun _ => Iff.rfl) (ci_succ i) (fun _ _ => Iff.rfl) (Nat.le_refl _) (by omega)⟩)
  · exact (h.join (c := cf l (f i)) (x := xf l (f i)) ⟨i, hi, rfl⟩ ⟨i, hi, rfl⟩ (xf_good l _).2).imp fun r h => .inr (.inr (.inl ⟨rfl, h.same (fun _ => Iff.rfl) (fun _ => Iff.rfl) (si_succ i) (by omega) (Nat.le_refl _)⟩))
  · omega
theorem StT.start {r : Rol} (h : Tn (fun _ => False) (fun _ => False) (fun _ _ => False) 1 0 r) : StT l n f 0 0 r :=
  .inl ⟨rfl, h.same (fun x => ⟨False.elim, fun ⟨j, hj, _⟩ => absurd hj (by omega)⟩) (fun _ => Iff.rfl) (fun _ _ => Iff.rfl) (Nat.le_refl _) (Nat.le_refl _)⟩
theorem StT.pass {p : Nat} {r : Rol} (h : StT l n f p n r) (hp : p < 3) : StT l n f (p + 1) 0 r := by
  rcases h with ⟨rfl, h⟩ | ⟨rfl, h⟩ | ⟨rfl, h⟩ | ⟨rfl, e, h⟩
  · exact .inr (.inl ⟨rfl, h.same (fun _ => Iff.rfl) (fun x => ⟨False.elim, fun ⟨j, hj, _⟩ => absurd hj (by omega)⟩) (fun _ _ => Iff.rfl) (Nat.le_refl _) (Nat.le_refl _)⟩)
  · exact .inr (.inr (.inl ⟨rfl, h.same (fun _ => Iff.rfl) (fun _ => Iff.rfl) (fun c x => ⟨False.elim, fun ⟨j, hj, _⟩ => absurd hj (by omega)⟩) (Nat.le_refl _) (Nat.le_refl _)⟩))
  · exact .inr (.inr (.inr ⟨rfl, rfl, h⟩))
  · omega
/-- What stands at the end. -/
def Fin (l : List (Int × Int)) (n : Nat) (r : Rol) : Prop := Tn (XI l id n) (CI l id n) (SI l id n) (1 + n + n) n r
theorem Fin.of {r : Rol} (h : StT l n f 3 0 r) (hf : ∀ j, j < n → f j < n) (hg : ∀ j, j < n → ∃ i, i < n ∧ f i = j) : Fin l n r := by
  rcases h with ⟨e, _⟩ | ⟨e, _⟩ | ⟨e, _⟩ | ⟨_, _, h⟩
  · cases e
  · cases e
  · cases e
  · refine h.same (fun y => ⟨fun ⟨j, hj, e⟩ => ⟨f j, hf j hj, e⟩, fun ⟨j, hj, e⟩ => ?_⟩) (fun y => ⟨fun ⟨j, hj, e⟩ => ⟨f j, hf j hj, e⟩, fun ⟨j, hj, e⟩ => ?_⟩) (fun c y => ⟨fun ⟨j, hj, e⟩ => ⟨f j, hf j hj, e⟩, fun ⟨j, hj, e⟩ => ?_⟩) (Nat.le_refl _) (Nat.le_refl _)
    all_goals
      obtain ⟨i, hi, e2⟩ := hg j hj
      exact ⟨i, hi, by rw [e2]; exact e⟩
end
def PsIn (W : World) (l : List (Int × Int)) (v : Value) : Prop := ∃ (A : Option Addr) (cap b off : Nat), v = .slice A l.length cap ∧ (0 < l.length → A = some ⟨b, off, none⟩ ∧ b < W.heap.size) ∧ ∀ (i : Nat) (h : i < l.length), W.cell? ⟨b, off + i * 2, none⟩ = some (.int .i64 l[i].1) ∧ W.cell? ⟨b, off + i * 2 + 1, none⟩ = some (.int .i64 l[i].2)
section
variable {H : Type} {enc : TypeId × Value → H} {w : World} {base : Nat} {held : Bool}
theorem pair_of {fuel : Nat} {c0 c1 : Value} {y : DataW H × List MemPlace} (h : DataW.trod enc Try.prog w base (fun _ => true) held fuel 59 [c0, c1] = some y) : ∃ a b : Int, c0 = .int .i64 a ∧ c1 = .int .i64 b := by
  obtain ⟨xs, m, _, _, _, hlen, hf⟩ := DataW.trod_array Try.underlying59 h
  match xs, hlen with
  | [y0, y1], _ =>
    have e1 : Try.prog.cellsOf 3 = 1 := by kernel_rfl
    have f0 := hf 0 (by omega)
    have f1 := hf 1 (by omega)
    rw [e1] at f0 f1
    obtain ⟨k, h0, _, _⟩ := DataW.trod_int Try.underlying3 f0
    obtain ⟨n, h1, _, _⟩ := DataW.trod_int Try.underlying3 f1
    injection h0 with h0
    injection h1 with h1
    exact ⟨k, n, h0, h1⟩
theorem pairs_in {fuel : Nat} {v : Value} {y : DataW H × List MemPlace} (h : DataW.trod enc Try.prog w base (fun _ => true) held fuel 57 [v] = some y) : ∃ l, PsIn w l v ∧ l.length ≤ maxLen ∧ True := by
  rcases Go.Deep.open_slice Try.underlying57 h with ⟨hcs, _⟩ | ⟨x, l, c, m, n, D, Pl, hcs, _, hl, hm, hmm, _, hel⟩
  · injection hcs with hcs
    subst hcs
    exact ⟨[], ⟨none, 0, 0, 0, rfl, fun h => absurd h (by simp), fun i hi => absurd hi (by simp)⟩, by simp, trivial⟩
  · injection hcs with hcs
    subst hcs
    have hml : l ≤ m := by rw [hmm]; split <;> omega
    have e2 : Try.prog.cellsOf 59 = 2 := by kernel_rfl
    have key : ∀ i, ∃ z : Int × Int, i < l → w.cell? ((x.add (i * 2)).add 0) = some (.int .i64 z.1) ∧ w.cell? ((x.add (i * 2)).add 1) = some (.int .i64 z.2) := fun i => by
      by_cases hi : i < l
      · obtain ⟨cs', hc, ht⟩ := hel i (by omega)
        rw [e2] at hc
        obtain ⟨_, hlen, hcell⟩ := World.cells?_some hc
        match cs', hlen with
        | [c0, c1], _ =>
          obtain ⟨a, b, r0, r1⟩ := pair_of ht
          refine ⟨(a, b), fun _ => ⟨?_, ?_⟩⟩
          · rw [hcell 0 (by omega), ← r0]; rfl
          · rw [hcell 1 (by omega), ← r1]; rfl
      · exact ⟨(0, 0), fun h => absurd h hi⟩
    obtain ⟨xs, hxs⟩ := Classical.axiomOfChoice key
    have hlen : ((List.range l).map xs).length = l := by simp
    refine ⟨(List.range l).map xs, ?_, by rw [hlen]; omega, trivial⟩
    rcases Nat.eq_zero_or_pos l with h0 | h0
    · exact ⟨some x, c, 0, 0, by rw [hlen], fun h => absurd h (by rw [hlen]; omega), fun i hi => absurd hi (by rw [hlen]; omega)⟩
    · have hp := (hxs 0 h0).1
      have hx0 : (x.add (0 * 2)).add 0 = x.add 0 := by simp [Addr.add]
      rw [hx0] at hp
      obtain ⟨b, off, rfl, hb⟩ := addr_at hp
      refine ⟨some ⟨b, off, none⟩, c, b, off, by rw [hlen], fun _ => ⟨rfl, hb⟩, fun i hi => ?_⟩
      obtain ⟨q0, q1⟩ := hxs i (by rw [← hlen]; exact hi)
      have a0 : ∀ j : Nat, ((⟨b, off, none⟩ : Addr).add (i * 2)).add j = ⟨b, off + i * 2 + j, none⟩ := fun j => by rw [addr_add, addr_add]
      rw [a0] at q0 q1
      have e : ((List.range l).map xs)[i] = xs i := by simp
      rw [e]
      exact ⟨q0, q1⟩
end
end Go.Proofs.Ytdkcfhmdgignhaa.Rl
