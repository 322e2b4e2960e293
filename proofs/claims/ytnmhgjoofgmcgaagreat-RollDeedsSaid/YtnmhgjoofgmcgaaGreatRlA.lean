/-
  Layer 18: rolls in plain words, and in memory.
-/
import Derived.Test.YtnmhgjoofgmcgaaGreatFxRow
import Derived.Lib.Bytealg
namespace Go.Proofs.YtnmhgjoofgmcgaaGreat.Rl
open Go.RowKit
open Fx (StrsAt)
set_option maxRecDepth 100000
set_option linter.unusedSimpArgs false
set_option linter.unusedVariables false

/-- How two names stand to one another. -/
def cmpL : List UInt8 → List UInt8 → Int := Lib.compareBytes
def cmpN (a b : ByteArray) : Int := cmpL a.data.toList b.data.toList
theorem cmpL_self : ∀ l : List UInt8, cmpL l l = 0
  | [] => rfl
  | a :: r => by
    have : cmpL (a :: r) (a :: r) = if a < a then -1 else if a < a then 1 else cmpL r r := rfl
    rw [this, if_neg (by simp), if_neg (by simp)]
    exact cmpL_self r
theorem cmpL_eq : ∀ {l k : List UInt8}, cmpL l k = 0 → l = k
  | [], [], _ => rfl
  | [], _ :: _, h => by exact absurd h (show ¬ (-1 : Int) = 0 by decide)
  | _ :: _, [], h => by exact absurd h (show ¬ (1 : Int) = 0 by decide)
  | a :: r, b :: s, h => by
    have e : cmpL (a :: r) (b :: s) = if a < b then -1 else if b < a then 1 else cmpL r s := rfl
    rw [e] at h
    split at h
    · exact absurd h (by decide)
    · split at h
      · exact absurd h (by decide)
      · rename_i h1 h2
        rw [cmpL_eq h, show a = b from UInt8.le_antisymm (UInt8.not_lt.1 h2) (UInt8.not_lt.1 h1)]
theorem cmpL_neg : ∀ l k : List UInt8, cmpL k l = - cmpL l k
  | [], [] => rfl
  | [], _ :: _ => rfl
  | _ :: _, [] => rfl
  | a :: r, b :: s => by
    have e : cmpL (a :: r) (b :: s) = if a < b then -1 else if b < a then 1 else cmpL r s := rfl
    have f : cmpL (b :: s) (a :: r) = if b < a then -1 else if a < b then 1 else cmpL s r := rfl
    rw [e, f]
    by_cases h1 : a < b
    · have h2 : ¬ b < a := UInt8.not_lt.2 (UInt8.le_of_lt h1)
      rw [if_pos h1, if_neg h2, if_pos h1]; decide
    · by_cases h2 : b < a
      · simp [h1, h2]
      · rw [if_neg h2, if_neg h1, if_neg h1, if_neg h2]
        exact cmpL_neg r s
theorem cmpL_trans : ∀ {l k m : List UInt8}, cmpL l k < 0 → cmpL k m < 0 → cmpL l m < 0
  | [], [], _, h, _ => by exact absurd h (show ¬ (0 : Int) < 0 by decide)
  | [], _ :: _, [], _, h => by exact absurd h (show ¬ (1 : Int) < 0 by decide)
  | [], _ :: _, _ :: _, _, _ => by show (-1 : Int) < 0; decide
  | _ :: _, [], _, h, _ => by exact absurd h (show ¬ (1 : Int) < 0 by decide)
  | _ :: _, _ :: _, [], _, h => by exact absurd h (show ¬ (1 : Int) < 0 by decide)
  | a :: r, b :: s, c :: t, h, h' => by
    have e : cmpL (a :: r) (b :: s) = if a < b then -1 else if b < a then 1 else cmpL r s := rfl
    have f : cmpL (b :: s) (c :: t) = if b < c then -1 else if c < b then 1 else cmpL s t := rfl
    have g : cmpL (a :: r) (c :: t) = if a < c then -1 else if c < a then 1 else cmpL r t := rfl
    rw [e] at h
    rw [f] at h'
    rw [g]
    by_cases h1 : a < b
    · by_cases h2 : b < c
      · rw [if_pos (UInt8.lt_trans h1 h2)]; decide
      · rw [if_neg h2] at h'
        by_cases h3 : c < b
        · rw [if_pos h3] at h'; exact absurd h' (by decide)
        · have : b = c := UInt8.le_antisymm (UInt8.not_lt.1 h3) (UInt8.not_lt.1 h2)
          subst this
          rw [if_pos h1]; decide
    · rw [if_neg h1] at h
      by_cases h2 : b < a
      · rw [if_pos h2] at h; exact absurd h (by decide)
      · have : a = b := UInt8.le_antisymm (UInt8.not_lt.1 h2) (UInt8.not_lt.1 h1)
        subst this
        rw [if_neg h2] at h
        by_cases h3 : a < c
        · rw [if_pos h3]; decide
        · rw [if_neg h3] at h' ⊢
          by_cases h4 : c < a
          · rw [if_pos h4] at h'; exact absurd h' (by decide)
          · rw [if_neg h4] at h' ⊢
            exact cmpL_trans h h'
theorem cmpN_self (a : ByteArray) : cmpN a a = 0 := cmpL_self _
theorem cmpN_eq {a b : ByteArray} (h : cmpN a b = 0) : a = b := by
  have := cmpL_eq h
  cases a; cases b
  simpa using this
theorem cmpN_neg (a b : ByteArray) : cmpN b a = - cmpN a b := cmpL_neg _ _
theorem cmpN_trans {a b c : ByteArray} (h : cmpN a b < 0) (k : cmpN b c < 0) : cmpN a c < 0 := cmpL_trans h k
/-- Rising names. -/
def Rising (l : List ByteArray) : Prop := l.Pairwise fun a b => cmpN a b < 0
/-- Where a name belongs. -/
def plc : List ByteArray → ByteArray → Nat
  | [], _ => 0
  | y :: r, x => if 0 < cmpN x y then plc r x + 1 else 0
theorem plc_le (x : ByteArray) : ∀ l : List ByteArray, plc l x ≤ l.length
  | [] => Nat.le_refl _
  | y :: r => by
    rw [plc]
    split
    · have := plc_le x r; simp only [List.length_cons]; omega
    · exact Nat.zero_le _
theorem Rising.at_ {l : List ByteArray} (h : Rising l) {i j : Nat} (hij : i < j) (hj : j < l.length) : cmpN (l[i]'(by omega)) l[j] < 0 := List.pairwise_iff_getElem.1 h i j (by omega) hj hij
/-- What a search tells of rising names. -/
theorem plc_of : ∀ (l : List ByteArray) (x : ByteArray) (k : Nat), Rising l → k ≤ l.length → (∀ h : 0 < k, ∀ hk : k - 1 < l.length, 0 < cmpN x l[k - 1]) → (∀ h : k < l.length, cmpN x l[k] ≤ 0) → k = plc l x
  | [], x, k, _, hk, _, _ => by simp at hk; rw [hk, plc]
  | y :: r, x, 0, _, _, _, h => by
    have := h (by simp)
    rw [plc, if_neg (by simpa using Int.not_lt.2 this)]
  | y :: r, x, k + 1, hs, hk, h1, h2 => by
    have hr := List.pairwise_cons.1 hs
    have hk' : k ≤ r.length := by simpa using hk
    have hy : 0 < cmpN x y := by
      have h3 := h1 (by omega) (by simp only [List.length_cons]; omega)
      cases k with
      | zero => simpa using h3
      | succ k =>
        have h4 : 0 < cmpN x r[k] := by simpa using h3
        have h5 := hr.1 r[k] (List.getElem_mem _)
        have h6 : cmpN r[k] x < 0 := by rw [cmpN_neg x]; omega
        have h7 := cmpN_trans h5 h6
        rw [cmpN_neg y]; omega
    rw [plc, if_pos hy]
    congr 1
    refine plc_of r x k hr.2 hk' (fun h hk9 => ?_) (fun h => by have := h2 (by simpa using h); simpa using this)
    have := h1 (by omega) (by simp only [List.length_cons]; omega)
    obtain ⟨k', rfl⟩ : ∃ k', k = k' + 1 := ⟨k - 1, by omega⟩
    simpa using this
theorem plc_mem : ∀ (l : List ByteArray) (x : ByteArray), Rising l → ((∃ h : plc l x < l.length, cmpN x l[plc l x] = 0) ↔ x ∈ l)
  | [], x, _ => by simp [plc]
  | y :: r, x, hs => by
    have hr := List.pairwise_cons.1 hs
    have ih := plc_mem r x hr.2
    rw [plc]
    by_cases hy : 0 < cmpN x y
    · rw [if_pos hy]
      have hne : x ≠ y := fun e => by rw [e, cmpN_self] at hy; exact absurd hy (by decide)
      rw [List.mem_cons]
      constructor
      · rintro ⟨h1, h2⟩
        exact .inr (ih.1 ⟨by simpa using h1, by simpa using h2⟩)
      · intro h
        obtain ⟨h1, h2⟩ := ih.2 (h.resolve_left hne)
        exact ⟨by simpa using h1, by simpa using h2⟩
    · rw [if_neg hy, List.mem_cons]
      constructor
      · rintro ⟨h1, h2⟩
        exact .inl (cmpN_eq (by simpa using h2))
      · intro h
        refine ⟨by simp, ?_⟩
        rcases h with rfl | h
        · simpa using cmpN_self x
        · exfalso
          have h5 := hr.1 x h
          rw [cmpN_neg y] at hy
          omega
/-- Is a name among these? -/
def hasN (l : List ByteArray) (x : ByteArray) : Bool := l.any fun y => decide (cmpN x y = 0)
theorem hasN_iff {l : List ByteArray} {x : ByteArray} : hasN l x = true ↔ x ∈ l := by
  unfold hasN
  rw [List.any_eq_true]
  constructor
  · rintro ⟨y, hy, h⟩
    rw [cmpN_eq (of_decide_eq_true h)]; exact hy
  · exact fun h => ⟨x, h, decide_eq_true (cmpN_self x)⟩
/-- Members and classes. -/
structure Mem where
  name : ByteArray
  role : Int
  quota : Int
structure Cls where
  name : ByteArray
  teacher : ByteArray
  studs : List ByteArray
structure Rol where
  ms : List Mem
  cs : List Cls
def Rol.names (r : Rol) : List ByteArray := r.ms.map (·.name)
def Rol.classes (r : Rol) : List ByteArray := r.cs.map (·.name)

section
variable {α : Type}
/-- A row of structs of three cells each. -/
def RowAt (enc : α → List Value) (P : Nat → Prop) (W : World) (l : List α) (v : Value) : Prop :=
  ∃ (A : Option Addr) (cap b : Nat), v = .slice A l.length cap ∧ l.length ≤ cap ∧ (∀ a, A = some a → a = ⟨b, 0, none⟩) ∧ (0 < l.length → A = some ⟨b, 0, none⟩ ∧ b < W.heap.size ∧ P b) ∧ ∀ (i : Nat) (h : i < l.length) (j : Nat) (u : Value), (enc l[i])[j]? = some u → W.cell? ⟨b, i * 3 + j, none⟩ = some u
theorem RowAt.keep {enc : α → List Value} {P Q : Nat → Prop} {W W' : World} {l : List α} {v : Value} (h : RowAt enc P W l v) (hs : W.heap.size ≤ W'.heap.size) (hq : ∀ r, P r → r < W.heap.size → Q r ∧ ∀ j, W'.cell? ⟨r, j, none⟩ = W.cell? ⟨r, j, none⟩) : RowAt enc Q W' l v := by
  obtain ⟨A, cap, b, h1, h2, h0, h3, h4⟩ := h
  refine ⟨A, cap, b, h1, h2, h0, fun h0 => ?_, fun i hi j u hu => ?_⟩
  · obtain ⟨e1, e2, e3⟩ := h3 h0
    exact ⟨e1, by omega, (hq b e3 e2).1⟩
  · obtain ⟨e1, e2, e3⟩ := h3 (by omega)
    rw [(hq b e3 e2).2]
    exact h4 i hi j u hu
theorem RowAt.under {enc : α → List Value} {P : Nat → Prop} {W W' : World} {l : List α} {v : Value} (h : RowAt enc P W l v) (b : Below W.heap.size W W') : RowAt enc P W' l v :=
  h.keep b.size fun r hp hr => ⟨hp, fun j => b.cell (p := ⟨r, j, none⟩) hr⟩
theorem RowAt.form {enc : α → List Value} {P : Nat → Prop} {W : World} {l : List α} {v : Value} (h : RowAt enc P W l v) : ∃ A cap, v = .slice A l.length cap := by
  obtain ⟨A, cap, b, h1, _⟩ := h; exact ⟨A, cap, h1⟩
theorem RowAt.nil (enc : α → List Value) (P : Nat → Prop) (W : World) : RowAt enc P W [] (.slice none 0 0) := ⟨none, 0, 0, rfl, by simp, fun a h => (by cases h), fun h => absurd h (by simp), fun i h => absurd h (by simp)⟩
/-- All cells of a row. -/
def cellsOf (enc : α → List Value) (l : List α) : List Value := (l.map enc).flatten
theorem cellsOf_len {enc : α → List Value} (he : ∀ x, (enc x).length = 3) : ∀ l : List α, (cellsOf enc l).length = l.length * 3
  | [] => rfl
  | x :: r => by
    have := cellsOf_len he r
    show (enc x ++ cellsOf enc r).length = _
    rw [List.length_append, he, this, List.length_cons]; omega
theorem cellsOf_app (enc : α → List Value) (l k : List α) : cellsOf enc (l ++ k) = cellsOf enc l ++ cellsOf enc k := by simp [cellsOf]
theorem cellsOf_at {enc : α → List Value} (he : ∀ x, (enc x).length = 3) : ∀ (l : List α) (i : Nat) (h : i < l.length) (j : Nat) (u : Value), (enc l[i])[j]? = some u → (cellsOf enc l)[i * 3 + j]? = some u
  | [], i, h, _, _, _ => absurd h (by simp)
  | x :: r, 0, h, j, u, hu => by
    have hj : j < (enc x).length := by
      rcases Nat.lt_or_ge j (enc x).length with h1 | h1
      · exact h1
      · have hu : (enc x)[j]? = some u := hu
        rw [List.getElem?_eq_none h1] at hu; cases hu
    show (enc x ++ cellsOf enc r)[0 * 3 + j]? = some u
    rw [Nat.zero_mul, Nat.zero_add, List.getElem?_append_left hj]
    exact hu
  | x :: r, i + 1, h, j, u, hu => by
    have := cellsOf_at he r i (by simpa using h) j u (by simpa using hu)
    show (enc x ++ cellsOf enc r)[(i + 1) * 3 + j]? = some u
    rw [List.getElem?_append_right (by rw [he]; omega), he, show (i + 1) * 3 + j - 3 = i * 3 + j by omega]
    exact this
/-- A row of the call's own reads as its structs. -/
theorem RowAt.of_own {enc : α → List Value} (he : ∀ x, (enc x).length = 3) {W : World} {base : Nat} {e : TypeId} {v : Value} {l : List α} (h : W.ownsRow base e 3 v l.length (cellsOf enc l)) : RowAt enc (fun b => base ≤ b) W l v := by
  rcases h.2 with ⟨rfl, hn⟩ | ⟨g, cp, cur, rfl, hbr, hh, hnc, _⟩
  · have e : l = [] := List.eq_nil_of_length_eq_zero hn
    subst e
    exact RowAt.nil _ _ _
  · have hc := h.cells (g := g) rfl
    refine ⟨_, cp, g, rfl, hnc, fun a h => (by injection h with h; exact h.symm), fun _ => ⟨rfl, Gn.heap_lt hh, hbr⟩, fun i hi j u hu => ?_⟩
    have := hc (i * 3 + j) u (cellsOf_at he l i hi j u hu)
    rwa [Gn.add_row] at this
end
def encM (m : Mem) : List Value := [.string m.name, .int .i64 m.role, .int .i64 m.quota]
/-- A class as it lies: its students' slice as a value. -/
structure CRaw where
  name : ByteArray
  teacher : ByteArray
  studs : Value
def encC (c : CRaw) : List Value := [.string c.name, .string c.teacher, c.studs]
theorem encM_len (m : Mem) : (encM m).length = 3 := rfl
theorem encC_len (c : CRaw) : (encC c).length = 3 := rfl
def MsAt (P : Nat → Prop) (W : World) (l : List Mem) (v : Value) : Prop := RowAt encM P W l v
/-- Each class as it lies is that class. -/
def AllC (P : Nat → Prop) (W : World) (raws : List CRaw) (cs : List Cls) : Prop := raws.length = cs.length ∧ ∀ (i : Nat) (h : i < raws.length) (h2 : i < cs.length), raws[i].name = cs[i].name ∧ raws[i].teacher = cs[i].teacher ∧ StrsAt P W cs[i].studs raws[i].studs
def CsAt (P : Nat → Prop) (W : World) (l : List Cls) (v : Value) : Prop := ∃ raws : List CRaw, RowAt encC P W raws v ∧ AllC P W raws l
def RlAt (P : Nat → Prop) (W : World) (r : Rol) (v : Value) : Prop := ∃ vm vc, v = .agg #[vm, vc] ∧ MsAt P W r.ms vm ∧ CsAt P W r.cs vc
theorem AllC.keep {P Q : Nat → Prop} {W W' : World} {raws : List CRaw} {cs : List Cls} (h : AllC P W raws cs) (hs : W.heap.size ≤ W'.heap.size) (hq : ∀ r, P r → r < W.heap.size → Q r ∧ ∀ j, W'.cell? ⟨r, j, none⟩ = W.cell? ⟨r, j, none⟩) : AllC Q W' raws cs :=
  ⟨h.1, fun i h1 h2 => ⟨(h.2 i h1 h2).1, (h.2 i h1 h2).2.1, (h.2 i h1 h2).2.2.keep hs hq⟩⟩
theorem CsAt.keep {P Q : Nat → Prop} {W W' : World} {l : List Cls} {v : Value} (h : CsAt P W l v) (hs : W.heap.size ≤ W'.heap.size) (hq : ∀ r, P r → r < W.heap.size → Q r ∧ ∀ j, W'.cell? ⟨r, j, none⟩ = W.cell? ⟨r, j, none⟩) : CsAt Q W' l v := by
  obtain ⟨raws, h1, h2⟩ := h
  exact ⟨raws, h1.keep hs hq, h2.keep hs hq⟩
theorem CsAt.form {P : Nat → Prop} {W : World} {l : List Cls} {v : Value} (h : CsAt P W l v) : ∃ A cap, v = .slice A l.length cap := by
  obtain ⟨raws, h1, h2⟩ := h
  obtain ⟨A, cap, h3⟩ := h1.form
  exact ⟨A, cap, by rw [← h2.1]; exact h3⟩
theorem RlAt.keep {P Q : Nat → Prop} {W W' : World} {r : Rol} {v : Value} (h : RlAt P W r v) (hs : W.heap.size ≤ W'.heap.size) (hq : ∀ r, P r → r < W.heap.size → Q r ∧ ∀ j, W'.cell? ⟨r, j, none⟩ = W.cell? ⟨r, j, none⟩) : RlAt Q W' r v := by
  obtain ⟨vm, vc, h1, h2, h3⟩ := h
  exact ⟨vm, vc, h1, RowAt.keep h2 hs hq, h3.keep hs hq⟩
theorem RlAt.under {P : Nat → Prop} {W W' : World} {r : Rol} {v : Value} (h : RlAt P W r v) (b : Below W.heap.size W W') : RlAt P W' r v :=
  h.keep b.size fun r hp hr => ⟨hp, fun j => b.cell (p := ⟨r, j, none⟩) hr⟩
theorem RlAt.form {P : Nat → Prop} {W : World} {r : Rol} {v : Value} (h : RlAt P W r v) : ∃ Am cm Ac cc, v = .agg #[.slice Am r.ms.length cm, .slice Ac r.cs.length cc] ∧ MsAt P W r.ms (.slice Am r.ms.length cm) ∧ CsAt P W r.cs (.slice Ac r.cs.length cc) := by
  obtain ⟨vm, vc, rfl, h1, h2⟩ := h
  obtain ⟨Am, cm, rfl⟩ := RowAt.form h1
  obtain ⟨Ac, cc, rfl⟩ := h2.form
  exact ⟨Am, cm, Ac, cc, rfl, h1, h2⟩
end Go.Proofs.YtnmhgjoofgmcgaaGreat.Rl
