/-
  Layer 23: two good messages with the same bytes are the same (plain words).
-/
import Derived.Test.YtfeelmblnkpfdaaDoorMsGe
namespace Go.Proofs.YtfeelmblnkpfdaaDoor.Ms
open Oct (pb bs rng rInt rText rBool)
open Crc (wr op)
open Go.RowKit
set_option maxRecDepth 100000
set_option linter.unusedSimpArgs false
set_option linter.unusedVariables false
theorem pb_inj {n k : Int} {R S : List UInt8} (h1 : ¬ rng n) (h2 : ¬ rng k) (h : pb n ++ R = pb k ++ S) : n = k ∧ R = S := by
  have e1 := rInt_of n R h1
  have e2 := rInt_of k S h2
  rw [h, e2] at e1
  injection e1 with a b
  injection b with b
  exact ⟨a.symm, b.symm⟩
theorem qT_inj {t u : ByteArray} {R S : List UInt8} (h1 : t.size ≤ 65536) (h2 : u.size ≤ 65536) (h : qT t ++ R = qT u ++ S) : t = u ∧ R = S := by
  have e1 := rText_of t R h1
  have e2 := rText_of u S h2
  rw [h, e2] at e1
  injection e1 with a b
  injection b with b
  refine ⟨?_, b.symm⟩
  have : (⟨(bs t).toArray⟩ : ByteArray) = ⟨(bs u).toArray⟩ := by rw [a]
  exact this
theorem ints_inj : ∀ (k l : List Int) (R S : List UInt8), k.length = l.length → (∀ n ∈ k, ¬ rng n) → (∀ n ∈ l, ¬ rng n) → (k.map pb).flatten ++ R = (l.map pb).flatten ++ S → k = l ∧ R = S
  | [], [], R, S, _, _, _, h => ⟨rfl, by simpa using h⟩
  | [], _ :: _, _, _, h, _, _, _ => by cases h
  | _ :: _, [], _, _, h, _, _, _ => by cases h
  | n :: k, m :: l, R, S, hl, h1, h2, h => by
    rw [List.map_cons, List.flatten_cons, List.append_assoc, List.map_cons, List.flatten_cons, List.append_assoc] at h
    obtain ⟨rfl, h3⟩ := pb_inj (h1 n (List.mem_cons_self ..)) (h2 m (List.mem_cons_self ..)) h
    obtain ⟨rfl, h4⟩ := ints_inj k l R S (by simpa using hl) (fun x hx => h1 x (List.mem_cons_of_mem _ hx)) (fun x hx => h2 x (List.mem_cons_of_mem _ hx)) h3
    exact ⟨rfl, h4⟩
theorem encE_inj {x y : Ent} {R S : List UInt8} (h1 : entOk x) (h2 : entOk y) (h : encE x ++ R = encE y ++ S) : x = y ∧ R = S := by
  obtain ⟨c, n, t⟩ := x
  obtain ⟨d, k, u⟩ := y
  unfold encE at h
  simp only [List.append_assoc] at h
  obtain ⟨e1, h3⟩ := pb_inj h1.1 h2.1 h
  obtain ⟨e2, h4⟩ := pb_inj h1.2.1 h2.2.1 h3
  obtain ⟨e3, h5⟩ := qT_inj h1.2.2 h2.2.2 h4
  have e1 : c = d := e1
  have e2 : n = k := e2
  have e3 : t = u := e3
  subst e1 e2 e3
  exact ⟨rfl, h5⟩
theorem ents_inj : ∀ (k l : List Ent) (R S : List UInt8), k.length = l.length → (∀ n ∈ k, entOk n) → (∀ n ∈ l, entOk n) → (k.map encE).flatten ++ R = (l.map encE).flatten ++ S → k = l ∧ R = S
  | [], [], R, S, _, _, _, h => ⟨rfl, by simpa using h⟩
  | [], _ :: _, _, _, h, _, _, _ => by cases h
  | _ :: _, [], _, _, h, _, _, _ => by cases h
  | n :: k, m :: l, R, S, hl, h1, h2, h => by
    rw [List.map_cons, List.flatten_cons, List.append_assoc, List.map_cons, List.flatten_cons, List.append_assoc] at h
    obtain ⟨rfl, h3⟩ := encE_inj (h1 n (List.mem_cons_self ..)) (h2 m (List.mem_cons_self ..)) h
    obtain ⟨rfl, h4⟩ := ents_inj k l R S (by simpa using hl) (fun x hx => h1 x (List.mem_cons_of_mem _ hx)) (fun x hx => h2 x (List.mem_cons_of_mem _ hx)) h3
    exact ⟨rfl, h4⟩
theorem nums_inj {m p : Msg} : ∀ (js : List Nat) (R S : List UInt8), (∀ j ∈ js, ¬ rng (numAt m j)) → (∀ j ∈ js, ¬ rng (numAt p j)) → (js.map fun j => pb (numAt m j)).flatten ++ R = (js.map fun j => pb (numAt p j)).flatten ++ S → (∀ x : Msg, js.foldl (fun x j => setNum x j (numAt m j)) x = js.foldl (fun x j => setNum x j (numAt p j)) x) ∧ R = S
  | [], R, S, _, _, h => ⟨fun _ => rfl, by simpa using h⟩
  | j :: js, R, S, h1, h2, h => by
    rw [List.map_cons, List.flatten_cons, List.append_assoc, List.map_cons, List.flatten_cons, List.append_assoc] at h
    obtain ⟨e, h3⟩ := pb_inj (h1 j (List.mem_cons_self ..)) (h2 j (List.mem_cons_self ..)) h
    obtain ⟨h4, h5⟩ := nums_inj js R S (fun x hx => h1 x (List.mem_cons_of_mem _ hx)) (fun x hx => h2 x (List.mem_cons_of_mem _ hx)) h3
    refine ⟨fun x => ?_, h5⟩
    rw [List.foldl_cons, List.foldl_cons, e]
    exact h4 _
theorem enc_inj {m p : Msg} {r : Int} (g1 : Good m r) (g2 : Good p r) (a : Sh) (ha : shp a = true) (hk : isK a = true → m.known.length = p.known.length) (he : isE1 a = true → m.ents.length = p.ents.length) (R S : List UInt8) (h : encA m a ++ R = encA p a ++ S) : (∀ x, setA m x a = setA p x a) ∧ R = S := by
  cases a with
  | nums js =>
    unfold shp at ha
    simp only [Bool.and_eq_true, decide_eq_true_eq, List.all_eq_true] at ha
    exact nums_inj js R S (fun j hj => g1.num j (ha.2 j hj)) (fun j hj => g2.num j (ha.2 j hj)) h
  | known =>
    obtain ⟨e, h⟩ := ints_inj _ _ R S (hk rfl) g1.kj g2.kj h
    exact ⟨fun x => by show ({ x with known := m.known } : Msg) = { x with known := p.known }; rw [e], h⟩
  | text j =>
    have key : ∀ {m : Msg}, Good m r → (txtAt m j).size ≤ 65536 := fun {m} g => by
      unfold txtAt
      split
      · exact Nat.le_trans g.text (by decide)
      · exact g.state
    obtain ⟨e, h⟩ := qT_inj (key g1) (key g2) h
    exact ⟨fun x => by show setTxt x j (txtAt m j) = setTxt x j (txtAt p j); rw [e], h⟩
  | yes =>
    have h : ((if m.full then 1 else 0) :: R : List UInt8) = (if p.full then 1 else 0) :: S := h
    have e1 := rBool_of m.full R
    have e2 := rBool_of p.full S
    rw [h, e2] at e1
    injection e1 with a b
    injection b with b
    exact ⟨fun x => by show ({ x with full := m.full } : Msg) = { x with full := p.full }; rw [a], b.symm⟩
  | entry =>
    obtain ⟨e, h⟩ := ents_inj _ _ R S (he rfl) (fun y hy => (g1.ej y hy).1) (fun y hy => (g2.ej y hy).1) h
    exact ⟨fun x => by show ({ x with ents := m.ents } : Msg) = { x with ents := p.ents }; rw [e], h⟩
  | entries =>
    have h : pb m.ents.length ++ (m.ents.map encE).flatten ++ R = pb p.ents.length ++ (p.ents.map encE).flatten ++ S := h
    rw [List.append_assoc, List.append_assoc] at h
    have n1 := g1.en
    have n2 := g2.en
    obtain ⟨e, h⟩ := pb_inj (by unfold rng; omega) (by unfold rng; omega) h
    obtain ⟨e, h⟩ := ents_inj _ _ R S (by omega) (fun y hy => (g1.ej y hy).1) (fun y hy => (g2.ej y hy).1) h
    exact ⟨fun x => by show ({ x with ents := m.ents } : Msg) = { x with ents := p.ents }; rw [e], h⟩
theorem encs_inj {m p : Msg} {r : Int} (g1 : Good m r) (g2 : Good p r) : ∀ (acts : List Sh) (R S : List UInt8), acts.all shp = true → (acts.any isK = true → m.known.length = p.known.length) → (acts.any isE1 = true → m.ents.length = p.ents.length) → (acts.map (encA m)).flatten ++ R = (acts.map (encA p)).flatten ++ S → (∀ x, acts.foldl (setA m) x = acts.foldl (setA p) x) ∧ R = S
  | [], R, S, _, _, _, h => ⟨fun _ => rfl, by simpa using h⟩
  | a :: acts, R, S, hs, hk, he, h => by
    rw [List.all_cons, Bool.and_eq_true] at hs
    rw [List.map_cons, List.flatten_cons, List.append_assoc, List.map_cons, List.flatten_cons, List.append_assoc] at h
    obtain ⟨e1, h⟩ := enc_inj g1 g2 a hs.1 (fun h => hk (by rw [List.any_cons, h, Bool.true_or])) (fun h => he (by rw [List.any_cons, h, Bool.true_or])) _ _ h
    obtain ⟨e2, h⟩ := encs_inj g1 g2 acts R S hs.2 (fun h => hk (by rw [List.any_cons, h, Bool.or_true])) (fun h => he (by rw [List.any_cons, h, Bool.or_true])) h
    refine ⟨fun x => ?_, h⟩
    rw [List.foldl_cons, List.foldl_cons, e1]
    exact e2 _
theorem body_inj {m p : Msg} {r : Int} (g1 : Good m r) (g2 : Good p r) (h : bodyM m = bodyM p) : m = p := by
  unfold bodyM at h
  have a1 := g1.k1
  have a2 := g1.k12
  have b1 := g2.k1
  have b2 := g2.k12
  obtain ⟨ek, h⟩ := pb_inj (by unfold rng; omega) (by unfold rng; omega) h
  have hkn : m.kind ≠ 1 → m.known.length = p.known.length := fun hk => by
    have h1 := g1.known.resolve_left hk
    have h2 := g2.known.resolve_left (by rw [← ek]; exact hk)
    omega
  have hen : m.kind = 2 → m.ents.length = p.ents.length := fun hk => by
    have h1 := g1.size
    have h2 := g2.size
    unfold sizeM at h1 h2
    rw [if_pos hk] at h1
    rw [if_pos (ek ▸ hk)] at h2
    omega
  have hfull : m.full = p.full ∨ m.kind ≠ 10 := by
    by_cases hk : m.kind = 10
    · left
      have hp : p.kind = 10 := ek ▸ hk
      have split_ : ∀ f : Bool, showA 10 f = [.nums [1, 2], .known, .nums [4, 10], .yes] ++ (if f = true then tailA else []) := fun f => by cases f <;> rfl
      rw [hk, hp, split_, split_, List.map_append, List.flatten_append, List.map_append, List.flatten_append] at h
      obtain ⟨e, _⟩ := encs_inj g1 g2 [.nums [1, 2], .known, .nums [4, 10], .yes] _ _ (by rfl) (fun _ => hkn (by omega)) (fun h => by cases h) h
      have := congrArg Msg.full (e (zeroM 10))
      exact this
    · exact .inr hk
  have hsh : showA m.kind m.full = showA p.kind p.full := by
    rw [← ek]
    rcases hfull with e | hk
    · rw [e]
    · unfold showA kindA
      simp only [hk, if_false]
  rw [hsh] at h
  have hnd := acts_nod p.kind p.full b1 b2
  obtain ⟨e, _⟩ := encs_inj g1 g2 (showA p.kind p.full) [] [] (show_shp _ _).1 (fun h => hkn (by rw [ek]; exact hnd.2.1 h)) (fun h => hen (by rw [ek]; exact hnd.2.2 h)) (by rw [List.append_nil, List.append_nil]; exact h)
  have h1 := again m a1 a2 g1.bare
  have h2 := again p b1 b2 g2.bare
  rw [← h1, ← h2, hsh, ek, e]
/-- Good messages have the same frame just where they are the same. -/
theorem put_inj {m p : Msg} {r : Int} (g1 : goodM m r = true) (g2 : goodM p r = true) : putM m r = putM p r ↔ m = p := by
  refine ⟨fun h => ?_, fun h => by rw [h]⟩
  rw [put_good g1, put_good g2] at h
  have l1 := body_len (good_of g1)
  have l2 := body_len (good_of g2)
  have hw : wr (bodyM m) = wr (bodyM p) := by
    have := congrArg bs h
    rwa [Crc.bs_mk, Crc.bs_mk] at this
  have e1 := Crc.op_wr _ l1
  have e2 := Crc.op_wr _ l2
  rw [hw, e2] at e1
  injection e1 with e1 _
  exact body_inj (good_of g1) (good_of g2) e1.symm
end Go.Proofs.YtfeelmblnkpfdaaDoor.Ms
