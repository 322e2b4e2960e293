/-
  Numbers written one behind the other, and cut off: plain lists.
-/
import Derived.Test.YtjemofhppljcbaaOctIn2
namespace Go.Proofs.Ytjemofhppljcbaa.Oct
open Go.RowKit

/-- The lowest 53 digits of a number. -/
def low (z : Int) : Int := z % 9007199254740992
theorem low_lo (z : Int) : 0 ≤ low z := by unfold low; omega
theorem low_hi (z : Int) : low z ≤ 9007199254740991 := by unfold low; omega
theorem low_rng (z : Int) : ¬ rng (low z) := by have := low_lo z; have := low_hi z; unfold rng; omega

theorem and_low (z : Int) : bits .and .i64 z 9007199254740991 = low z := by
  unfold low
  show IntKind.i64.wrap ((BitVec.ofInt 64 z &&& BitVec.ofInt 64 9007199254740991).toNat : Int) = _
  have h1 : (BitVec.ofInt 64 9007199254740991).toNat = 2 ^ 53 - 1 := by decide
  rw [BitVec.toNat_and, h1, Nat.and_two_pow_sub_one_eq_mod, BitVec.toNat_ofInt]
  have e : (((z % (2 ^ 64 : Nat)).toNat % 2 ^ 53 : Nat) : Int) = z % 9007199254740992 := by
    have h2 : (0 : Int) ≤ z % ((2 ^ 64 : Nat) : Int) := Int.emod_nonneg _ (by decide)
    have h3 : ((2 ^ 64 : Nat) : Int) = 18446744073709551616 := by decide
    have h4 : (2 ^ 53 : Nat) = 9007199254740992 := by decide
    rw [h4, Int.natCast_emod, Int.toNat_of_nonneg h2, h3]
    omega
  rw [e, IntWalk.i64_in _ (by omega)]

/-- The bytes of the first k numbers. -/
def eAll (zs : List Int) (k : Nat) : List UInt8 := (zs.take k).flatMap fun z => pb (low z)
theorem eAll_succ (zs : List Int) (k : Nat) (h : k < zs.length) : eAll zs (k + 1) = eAll zs k ++ pb (low zs[k]) := by
  unfold eAll
  rw [List.take_succ_eq_append_getElem h, List.flatMap_append]
  simp
theorem eAll_len (zs : List Int) (k : Nat) : (eAll zs k).length ≤ 8 * k := by
  induction k with
  | zero => simp [eAll]
  | succ k ih =>
    by_cases h : k < zs.length
    · rw [eAll_succ zs k h, List.length_append]
      have := pb_len (low zs[k])
      omega
    · have : eAll zs (k + 1) = eAll zs k := by unfold eAll; rw [List.take_of_length_le (by omega), List.take_of_length_le (by omega)]
      rw [this]; omega
theorem eAll_split (zs : List Int) (k K : Nat) (hK : K ≤ zs.length) (h : k < K) : ∃ T, eAll zs K = eAll zs k ++ (pb (low (zs[k]'(by omega))) ++ T) := by
  induction K with
  | zero => omega
  | succ K ih =>
    rcases Nat.lt_or_ge k K with hlt | hge
    · obtain ⟨T, hT⟩ := ih (by omega) hlt
      exact ⟨T ++ pb (low (zs[K]'(by omega))), by rw [eAll_succ zs K (by omega), hT]; simp [List.append_assoc]⟩
    · have : k = K := by omega
      subst this
      exact ⟨[], by rw [eAll_succ zs k (by omega), List.append_nil]⟩
theorem eAll_mono (zs : List Int) (k : Nat) : (eAll zs k).length ≤ (eAll zs (k + 1)).length := by
  by_cases h : k < zs.length
  · rw [eAll_succ zs k h, List.length_append]; omega
  · have : eAll zs (k + 1) = eAll zs k := by unfold eAll; rw [List.take_of_length_le (by omega), List.take_of_length_le (by omega)]
    rw [this]; omega

/-- Of a number's bytes the first ones alone: it ends too early. -/
theorem gb_cut (m : Int) (h0 : 0 ≤ m) (hr : ¬ rng m) (j : Nat) (hj : j < (pb m).length) : gb ((pb m).take j) = (0, 0, 3) := by
  unfold rng at hr
  have hw := wid7 m.natAbs (by omega)
  have hf := first_toNat false (wid m.natAbs) hw
  have hp : pb m = UInt8.ofNat (0 + wid m.natAbs) :: be (wid m.natAbs) m.natAbs := by rw [pb, if_neg hr, if_neg (by omega)]
  rw [hp] at hj ⊢
  simp only [List.length_cons, be_length] at hj
  cases j with
  | zero => rfl
  | succ i =>
    have hf' : (UInt8.ofNat (0 + wid m.natAbs)).toNat = wid m.natAbs := by simpa using hf
    simp only [List.take_succ_cons, gb, hf', List.length_take, be_length]
    rw [if_neg (by omega), if_pos (by omega)]

/-- How the reader stands behind k numbers, where C bytes were kept. -/
def cutAt (zs : List Int) (K C k : Nat) : Rest := if (eAll zs k).length ≤ C then .ok (((eAll zs K).take C).drop (eAll zs k).length) else .error 3

theorem cut_whole (zs : List Int) (K C k : Nat) (hK : K ≤ zs.length) (h : k < K) (hw : (eAll zs (k + 1)).length ≤ C) :
    rInt (cutAt zs K C k) = (low (zs[k]'(by omega)), cutAt zs K C (k + 1)) ∧ rErr (cutAt zs K C (k + 1)) = 0 := by
  have hm := eAll_mono zs k
  have hs := eAll_succ zs k (by omega)
  obtain ⟨T, hT⟩ := eAll_split zs k K hK h
  have hl : (eAll zs (k + 1)).length = (eAll zs k).length + (pb (low (zs[k]'(by omega)))).length := by rw [hs, List.length_append]
  obtain ⟨q, hq⟩ : ∃ q, q = C - (eAll zs (k + 1)).length := ⟨_, rfl⟩
  have e1 : ((eAll zs K).take C).drop (eAll zs k).length = pb (low (zs[k]'(by omega))) ++ T.take q := by
    rw [List.drop_take, hT, List.drop_left, List.take_append, List.take_of_length_le (by omega)]
    congr 2
    omega
  have e2 : ((eAll zs K).take C).drop (eAll zs (k + 1)).length = T.take q := by
    rw [hl, ← List.drop_drop, e1, List.drop_left]
  have hg := gb_pb (low (zs[k]'(by omega))) (T.take q) (low_rng _)
  unfold cutAt
  rw [if_pos (by omega), if_pos hw, e1, e2]
  refine ⟨?_, rfl⟩
  simp only [rInt, hg]
  rw [if_pos trivial, List.drop_left]
theorem cut_part (zs : List Int) (K C k : Nat) (hK : K ≤ zs.length) (h : k < K) (hw : ¬ (eAll zs (k + 1)).length ≤ C) :
    rInt (cutAt zs K C k) = (0, .error 3) ∧ cutAt zs K C (k + 1) = .error 3 := by
  have hs := eAll_succ zs k (by omega)
  have hl : (eAll zs (k + 1)).length = (eAll zs k).length + (pb (low (zs[k]'(by omega)))).length := by rw [hs, List.length_append]
  refine ⟨?_, by unfold cutAt; rw [if_neg hw]⟩
  unfold cutAt
  by_cases hk : (eAll zs k).length ≤ C
  · rw [if_pos hk]
    obtain ⟨T, hT⟩ := eAll_split zs k K hK h
    have e1 : ((eAll zs K).take C).drop (eAll zs k).length = (pb (low (zs[k]'(by omega)))).take (C - (eAll zs k).length) := by
      rw [List.drop_take, hT, List.drop_left, List.take_append_of_le_length (by omega)]
    have hg := gb_cut (low (zs[k]'(by omega))) (low_lo _) (low_rng _) (C - (eAll zs k).length) (by omega)
    rw [e1]
    simp only [rInt, hg]
    rw [if_neg (by omega)]
  · rw [if_neg hk]
    rfl

/-- An Out stands as it did where no block of its kinds has turned. -/
theorem OutSt.far {w w' : World} {g c : Nat} {st : Option (List UInt8)} (h : OutSt w g c st) (hs : w.heap.size ≤ w'.heap.size)
    (hf : ∀ (k : Nat) (cs : Array Value) (t : TypeId) (fr : Nat × Nat), w.heap[k]? = some (Obj.cells cs t fr) → Ours t → w'.heap[k]? = w.heap[k]?) : OutSt w' g c st := by
  obtain ⟨hgc, hcw⟩ := h.lt
  cases st with
  | none => exact ⟨hgc, by omega, (hf _ _ _ _ h.2.2 (.inr (.inr rfl))).trans h.2.2⟩
  | some l =>
    refine ⟨hgc, by omega, ?_⟩
    rcases h.2.2 with ⟨h1, h2⟩ | ⟨k, A, cap, hk, hg, hh, hown⟩
    · exact .inl ⟨h1, (hf _ _ _ _ h2 (.inr (.inr rfl))).trans h2⟩
    · refine .inr ⟨k, A, cap, hk, (hf _ _ _ _ hg (.inr (.inr rfl))).trans hg, (hf _ _ _ _ hh (.inr (.inl rfl))).trans hh, hown.1, ?_⟩
      rcases hown.2 with h2 | ⟨r, cp, cur, hv, hbr, hhr, hrest⟩
      · exact .inl h2
      · exact .inr ⟨r, cp, cur, hv, hbr, (hf _ _ _ _ hhr (.inl rfl)).trans hhr, hrest⟩
theorem OutSt.drew {w w' : World} {g c : Nat} {st : Option (List UInt8)} (h : OutSt w g c st) (hd : Drew w w') : OutSt w' g c st := by
  obtain ⟨n, rfl⟩ := hd
  exact h.far (Nat.le_refl _) fun _ _ _ _ _ _ => rfl
theorem OutSt.grown {w w' : World} {g c : Nat} {st : Option (List UInt8)} {base : Nat} {e : TypeId} {size : Nat} {v : Value} {n : Nat} {xs : List Value} (h : OutSt w g c st) (hg : w.grownBy w' v.ownBlock) (hown : w.ownsRow base e size v n xs) (he : ¬ Ours e) : OutSt w' g c st :=
  h.far hg.size fun _ _ _ _ hk ht => (grown_keeps hg hown hk (fun e => he (e ▸ ht))).trans hk.symm
/-- A row of another kind is as it was behind an Out's call. -/
theorem OSep.own {w w' : World} {g c : Nat} (h : OSep g c w w') {base : Nat} {e : TypeId} {size : Nat} {v : Value} {n : Nat} {xs : List Value} (hown : w.ownsRow base e size v n xs) (he : ¬ Ours e) : w'.ownsRow base e size v n xs := by
  refine ⟨hown.1, ?_⟩
  rcases hown.2 with h2 | ⟨r, cp, cur, hv, hbr, hhr, hrest⟩
  · exact .inl h2
  · exact .inr ⟨r, cp, cur, hv, hbr, (h.far _ _ _ _ hhr he).trans hhr, hrest⟩
theorem Drew.own {w w' : World} (h : Drew w w') {base : Nat} {e : TypeId} {size : Nat} {v : Value} {n : Nat} {xs : List Value} (hown : w.ownsRow base e size v n xs) : w'.ownsRow base e size v n xs := by
  obtain ⟨k, rfl⟩ := h
  exact hown
/-- A row is as it was behind a call that turned one block of another kind alone. -/
theorem Sep.own {w w' : World} {g : Nat} (h : Sep g w.heap.size w w') {base : Nat} {e t : TypeId} {size : Nat} {v : Value} {n : Nat} {xs : List Value} {cs : Array Value} {fr : Nat × Nat} (hown : w.ownsRow base e size v n xs) (hg : w.heap[g]? = some (.cells cs t fr)) (hne : e ≠ t) : w'.ownsRow base e size v n xs := by
  refine ⟨hown.1, ?_⟩
  rcases hown.2 with h2 | ⟨r, cp, cur, hv, hbr, hhr, hrest⟩
  · exact .inl h2
  · refine .inr ⟨r, cp, cur, hv, hbr, (h.block r (heap_lt hhr) (fun e2 => ?_)).trans hhr, hrest⟩
    subst e2
    rw [hhr] at hg
    injection hg with hg
    injection hg with _ e3
    exact hne e3

end Go.Proofs.Ytjemofhppljcbaa.Oct
