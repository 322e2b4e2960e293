/-
  Plain mathematics of numbers as bytes (document, layer 1): the bytes of a number, the number at the head of bytes, and that the two are one another's way back.
  It imports nothing of the program.
-/
import Derived.Below
namespace Go.Proofs.YtgbpofgmomglfaaDoor.Oct

/-- The value of bytes, the highest first. -/
def val : List UInt8 → Nat
  | [] => 0
  | c :: l => c.toNat * 256 ^ l.length + val l

/-- How many digits to the base 256. -/
def widF : Nat → Nat → Nat
  | 0, _ => 0
  | f + 1, m => if m = 0 then 0 else widF f (m / 256) + 1
def wid (m : Nat) : Nat := widF 8 m

/-- The k lowest digits, the highest first. -/
def be : Nat → Nat → List UInt8
  | 0, _ => []
  | k + 1, m => UInt8.ofNat (m / 256 ^ k) :: be k m

/-- A number's bytes. -/
def pb (n : Int) : List UInt8 :=
  if n < -9007199254740992 ∨ 9007199254740992 < n then [] else
    UInt8.ofNat ((if n < 0 then 128 else 0) + wid n.natAbs) :: be (wid n.natAbs) n.natAbs

/-- What stands at the head of bytes: the number, its length, the error. -/
def gb (s : List UInt8) : Int × Nat × Nat :=
  match s with
  | [] => (0, 0, 3)
  | c :: l =>
    let k := c.toNat % 128
    if 7 < k ∨ c.toNat = 128 then (0, 0, 2)
    else if l.length < k then (0, 0, 3)
    else
      let v := val (l.take k)
      if (0 < k ∧ l.head? = some 0) ∨ 9007199254740992 < v then (0, 0, 2)
      else (if 128 ≤ c.toNat then -(v : Int) else (v : Int), k + 1, 0)

theorem val_lt (l : List UInt8) : val l < 256 ^ l.length := by
  induction l with
  | nil => simp [val]
  | cons c l ih =>
    have hc := c.toNat_lt
    simp only [val, List.length_cons, Nat.pow_succ]
    have : c.toNat * 256 ^ l.length + 256 ^ l.length ≤ 256 ^ l.length * 256 := by
      have := Nat.mul_le_mul_right (256 ^ l.length) (show c.toNat + 1 ≤ 256 by omega)
      rw [Nat.add_mul, Nat.one_mul] at this
      rw [Nat.mul_comm (256 ^ l.length) 256]
      exact this
    omega

theorem val_snoc (l : List UInt8) (c : UInt8) : val (l ++ [c]) = val l * 256 + c.toNat := by
  induction l with
  | nil => simp [val]
  | cons d l ih =>
    simp only [List.cons_append, val, ih, List.length_append, List.length_cons, List.length_nil, Nat.zero_add, Nat.pow_succ]
    rw [Nat.add_mul, Nat.mul_assoc, Nat.add_assoc]

theorem be_length (k m : Nat) : (be k m).length = k := by
  induction k with
  | zero => rfl
  | succ k ih => simp [be, ih]

theorem val_be (k m : Nat) : val (be k m) = m % 256 ^ k := by
  induction k with
  | zero => simp [be, val, Nat.mod_one]
  | succ k ih =>
    simp only [be, val, be_length, ih, UInt8.toNat_ofNat']
    have e : m % (256 ^ k * 256) = m % 256 ^ k + 256 ^ k * (m / 256 ^ k % 256) := Nat.mod_mul
    have e2 : m % 256 ^ (k + 1) = m % 256 ^ k + 256 ^ k * (m / 256 ^ k % 256) := e
    rw [e2, Nat.mul_comm (256 ^ k), Nat.add_comm]

/-- Bytes are the digits of their value. -/
theorem be_val (l : List UInt8) (m : Nat) (h : m % 256 ^ l.length = val l) : be l.length m = l := by
  induction l with
  | nil => rfl
  | cons c l ih =>
    have hl := val_lt l
    have hc := c.toNat_lt
    have hp : 0 < 256 ^ l.length := Nat.pow_pos (by omega)
    simp only [List.length_cons, Nat.pow_succ, val] at h
    rw [Nat.mod_mul] at h
    have hm : m % 256 ^ l.length < 256 ^ l.length := Nat.mod_lt _ hp
    have key : m % 256 ^ l.length = val l ∧ m / 256 ^ l.length % 256 = c.toNat := by
      have e1 : (256 ^ l.length * (m / 256 ^ l.length % 256) + m % 256 ^ l.length) % 256 ^ l.length = m % 256 ^ l.length := by
        rw [Nat.mul_add_mod, Nat.mod_mod]
      have e2 : (c.toNat * 256 ^ l.length + val l) % 256 ^ l.length = val l := by
        rw [Nat.mul_comm, Nat.mul_add_mod, Nat.mod_eq_of_lt hl]
      have h1 : 256 ^ l.length * (m / 256 ^ l.length % 256) + m % 256 ^ l.length = c.toNat * 256 ^ l.length + val l := by omega
      have a : m % 256 ^ l.length = val l := by rw [← e1, h1, e2]
      refine ⟨a, ?_⟩
      rw [a, Nat.mul_comm] at h1
      have h2 : m / 256 ^ l.length % 256 * 256 ^ l.length = c.toNat * 256 ^ l.length := by omega
      exact Nat.eq_of_mul_eq_mul_right hp h2
    simp only [List.length_cons, be]
    rw [ih key.1]
    congr 1
    apply UInt8.toNat_inj.1
    rw [UInt8.toNat_ofNat']
    exact key.2

theorem widF_ge (f m k : Nat) (hk : k < f) (h : 256 ^ k ≤ m) : k < widF f m := by
  induction f generalizing m k with
  | zero => omega
  | succ f ih =>
    have h0 : m ≠ 0 := by
      have : 0 < 256 ^ k := Nat.pow_pos (by omega)
      omega
    simp only [widF, if_neg h0]
    cases k with
    | zero => omega
    | succ k =>
      have : 256 ^ k ≤ m / 256 := by
        rw [Nat.le_div_iff_mul_le (by omega)]
        rwa [Nat.pow_succ] at h
      have := ih (m / 256) k (by omega) this
      omega

theorem widF_le (f m k : Nat) (h : m < 256 ^ k) : widF f m ≤ k := by
  induction f generalizing m k with
  | zero => simp [widF]
  | succ f ih =>
    simp only [widF]
    split
    · omega
    · cases k with
      | zero => simp at h; omega
      | succ k =>
        have : m / 256 < 256 ^ k := by
          rw [Nat.div_lt_iff_lt_mul (by omega)]
          rwa [Nat.pow_succ] at h
        have := ih (m / 256) k this
        omega

theorem wid_le (m k : Nat) (h : m < 256 ^ k) : wid m ≤ k := widF_le 8 m k h
theorem wid_ge (m k : Nat) (hk : k < 8) (h : 256 ^ k ≤ m) : k < wid m := widF_ge 8 m k hk h
theorem wid_eq (m k : Nat) (hk : k < 8) (h : m < 256 ^ (k + 1)) (h' : 256 ^ k ≤ m) : wid m = k + 1 := by
  have := wid_le m (k + 1) h
  have := wid_ge m k hk h'
  omega
theorem wid_zero : wid 0 = 0 := rfl
theorem wid_lt (m : Nat) (hm : m < 256 ^ 8) : m < 256 ^ wid m := by
  rcases Nat.lt_or_ge m (256 ^ wid m) with h | h
  · exact h
  · by_cases h8 : wid m < 8
    · have := wid_ge m (wid m) h8 h; omega
    · have : wid m ≤ 8 := wid_le m 8 hm
      have e : wid m = 8 := by omega
      rw [e]; exact hm
theorem wid_pos (m k : Nat) (h : wid m = k + 1) : 256 ^ k ≤ m := by
  rcases Nat.lt_or_ge m (256 ^ k) with h' | h'
  · have := wid_le m k h'; omega
  · exact h'
/-- One digit more. -/
theorem wid_step (m : Nat) (hm : m < 256 ^ 7) : wid m = if m = 0 then 0 else wid (m / 256) + 1 := by
  by_cases h : m = 0
  · subst h; rfl
  · rw [if_neg h]
    have hw := wid_lt m (Nat.lt_of_lt_of_le hm (Nat.pow_le_pow_right (by omega) (by omega)))
    have hle := wid_le m 7 hm
    rcases e : wid m with _ | k
    · rw [e] at hw; simp at hw; omega
    · have h1 := wid_pos m k e
      rw [e] at hw hle
      cases k with
      | zero =>
        have : m / 256 = 0 := by simp at hw; omega
        rw [this]; rfl
      | succ j =>
        rw [wid_eq (m / 256) j (by omega) (by rw [Nat.div_lt_iff_lt_mul (by omega)]; rwa [Nat.pow_succ] at hw) (by rw [Nat.le_div_iff_mul_le (by omega)]; rwa [Nat.pow_succ] at h1)]

/-- The first digit is none. -/
theorem be_head (m k : Nat) (h : wid m = k + 1) : UInt8.ofNat (m / 256 ^ k) ≠ 0 ∨ 256 ^ 8 ≤ m := by
  rcases Nat.lt_or_ge m (256 ^ 8) with hm | hm
  · left
    have h1 := wid_pos m k h
    have h2 := wid_lt m hm
    rw [h, Nat.pow_succ] at h2
    intro e
    have hp : 0 < 256 ^ k := Nat.pow_pos (by omega)
    have e' : m / 256 ^ k % 256 = 0 := by
      have := congrArg UInt8.toNat e
      rwa [UInt8.toNat_ofNat'] at this
    have a : 0 < m / 256 ^ k := Nat.div_pos h1 hp
    have b : m / 256 ^ k < 256 := by rw [Nat.div_lt_iff_lt_mul hp, Nat.mul_comm]; exact h2
    omega
  · exact .inr hm

theorem big : (9007199254740992 : Nat) < 256 ^ 7 := by decide
theorem wid7 (m : Nat) (h : m ≤ 9007199254740992) : wid m ≤ 7 := wid_le m 7 (by have := big; omega)

theorem first_toNat (b : Bool) (k : Nat) (hk : k ≤ 7) : (UInt8.ofNat ((if b then 128 else 0) + k)).toNat = (if b then 128 else 0) + k := by
  rw [UInt8.toNat_ofNat']
  cases b <;> simp <;> omega

/-- What was written is read, whatever stands behind. -/
theorem gb_pb (n : Int) (rest : List UInt8) (h : ¬ (n < -9007199254740992 ∨ 9007199254740992 < n)) : gb (pb n ++ rest) = (n, (pb n).length, 0) := by
  have hb : n.natAbs ≤ 9007199254740992 := by omega
  have hw := wid7 _ hb
  have h8 : n.natAbs < 256 ^ 8 := by
    have h := big
    have : 256 ^ 7 ≤ 256 ^ 8 := Nat.pow_le_pow_right (by omega) (by omega)
    omega
  have hlt := wid_lt _ h8
  have hf := first_toNat (decide (n < 0)) (wid n.natAbs) hw
  simp only [decide_eq_true_eq] at hf
  have hlen := be_length (wid n.natAbs) n.natAbs
  have hval := val_be (wid n.natAbs) n.natAbs
  rw [Nat.mod_eq_of_lt hlt] at hval
  have htake : (be (wid n.natAbs) n.natAbs ++ rest).take (wid n.natAbs) = be (wid n.natAbs) n.natAbs := by
    rw [List.take_append_of_le_length (by omega), List.take_of_length_le (by omega)]
  have hk : ((if n < 0 then 128 else 0) + wid n.natAbs) % 128 = wid n.natAbs := by split <;> omega
  rw [pb, if_neg h]
  simp only [List.cons_append, gb, hf, hk, htake, hval, List.length_append, hlen, List.length_cons]
  rw [if_neg, if_neg, if_neg]
  · refine Prod.ext ?_ (Prod.ext (by simp) rfl)
    simp only
    by_cases hn : n < 0
    · rw [if_pos hn, if_pos (by omega)]; omega
    · rw [if_neg hn, if_neg (by omega)]; omega
  · rintro (⟨h1, h2⟩ | h1)
    · rcases e : wid n.natAbs with _ | k
      · omega
      · rw [e] at h2
        simp only [be, List.cons_append, List.head?_cons, Option.some.injEq] at h2
        rcases be_head _ _ e with h3 | h3
        · exact h3 h2
        · omega
    · omega
  · omega
  · rintro (h1 | h1)
    · omega
    · split at h1
      · have : wid n.natAbs = 0 := by omega
        have : n.natAbs = 0 := by
          rw [this] at hlt; simp at hlt; omega
        omega
      · omega

/-- The document's plain reader holds the bytes against those of the number: this is the same. -/
theorem gb_by_pb (c : UInt8) (l : List UInt8) (h1 : ¬ (7 < c.toNat % 128 ∨ c.toNat = 128)) (h2 : ¬ l.length < c.toNat % 128) :
    gb (c :: l) = if pb (if 127 < c.toNat then -(val (l.take (c.toNat % 128)) : Int) else (val (l.take (c.toNat % 128)) : Int)) = c :: l.take (c.toNat % 128)
      then (if 127 < c.toNat then -(val (l.take (c.toNat % 128)) : Int) else (val (l.take (c.toNat % 128)) : Int), c.toNat % 128 + 1, 0) else (0, 0, 2) := by
  have hc := c.toNat_lt
  generalize hk : c.toNat % 128 = k at *
  have hlen : (l.take k).length = k := by rw [List.length_take]; omega
  generalize ht : l.take k = t at *
  have hv := val_lt t
  simp only [gb, hk, ht]
  rw [if_neg h1, if_neg h2]
  have hsign : (128 ≤ c.toNat) ↔ (127 < c.toNat) := by omega
  simp only [hsign]
  by_cases hbig : 9007199254740992 < val t
  · rw [if_pos (.inr hbig), if_neg]
    rw [pb, if_pos (by split <;> omega)]
    simp
  · have habs : (if 127 < c.toNat then -(val t : Int) else (val t : Int)).natAbs = val t := by split <;> omega
    have hnot : ¬ ((if 127 < c.toNat then -(val t : Int) else (val t : Int)) < -9007199254740992 ∨ 9007199254740992 < (if 127 < c.toNat then -(val t : Int) else (val t : Int))) := by split <;> omega
    have hw := wid7 (val t) (by omega)
    rw [pb, if_neg hnot, habs]
    by_cases hz : 0 < k ∧ l.head? = some 0
    · rw [if_pos (.inl hz), if_neg]
      intro e
      have e1 := List.cons.inj e
      have hl := congrArg List.length e1.2
      rw [be_length, hlen] at hl
      obtain ⟨hk0, hh⟩ := hz
      rw [hl] at e1
      have e2 := e1.2
      cases l with
      | nil => simp at hh
      | cons d l' =>
        simp only [List.head?_cons, Option.some.injEq] at hh
        subst hh
        obtain ⟨j, rfl⟩ : ∃ j, k = j + 1 := ⟨k - 1, by omega⟩
        rw [List.take_succ_cons] at ht
        rw [← ht, be] at e2
        rcases be_head (val t) j hl with h3 | h3
        · rw [← ht] at h3; exact h3 (List.cons.inj e2).1
        · have : 256 ^ 7 ≤ 256 ^ 8 := Nat.pow_le_pow_right (by omega) (by omega)
          have := big
          omega
    · rw [if_neg (by rintro (h | h); exact hz h; exact hbig h)]
      refine (if_pos ?_).symm
      have hwk : wid (val t) = k := by
        cases k with
        | zero =>
          have : t = [] := List.eq_nil_of_length_eq_zero hlen
          subst this; rfl
        | succ j =>
          cases l with
          | nil => simp at h2
          | cons d l' =>
            have hd : d ≠ 0 := fun e => hz ⟨by omega, by simp [e]⟩
            rw [List.take_succ_cons] at ht
            subst ht
            have hd' : d.toNat ≠ 0 := fun e => hd (UInt8.toNat_inj.1 (by simpa using e))
            simp only [List.length_cons] at hlen
            have hl' : (l'.take j).length = j := by omega
            refine wid_eq _ j (by omega) (by rw [← hlen]; exact hv) ?_
            simp only [val, hl']
            have := Nat.mul_le_mul_right (256 ^ j) (show 1 ≤ d.toNat by omega)
            omega
      have hneg : ((if 127 < c.toNat then -(val t : Int) else (val t : Int)) < 0) ↔ 127 < c.toNat := by
        constructor
        · intro h; split at h <;> omega
        · intro h
          rw [if_pos h]
          have : val t ≠ 0 := by
            intro e
            rw [e] at hwk
            have : k = 0 := hwk.symm
            omega
          omega
      rw [hwk]
      have e1 : UInt8.ofNat ((if (if 127 < c.toNat then -(val t : Int) else (val t : Int)) < 0 then 128 else 0) + k) = c := by
        apply UInt8.toNat_inj.1
        rw [UInt8.toNat_ofNat']
        by_cases hs : 127 < c.toNat
        · rw [if_pos (hneg.2 hs)]; omega
        · rw [if_neg (fun h => hs (hneg.1 h))]; omega
      have e2 : be k (val t) = t := by
        have := be_val t (val t) (by rw [Nat.mod_eq_of_lt hv])
        rwa [hlen] at this
      rw [e1, e2]

/-- One byte more: what both readers do in a round. -/
theorem val_take_succ (l : List UInt8) (k : Nat) (h : k < l.length) : val (l.take (k + 1)) = val (l.take k) * 256 + l[k].toNat := by
  rw [List.take_succ_eq_append_getElem h, val_snoc]

theorem val_take_lt (l : List UInt8) (k : Nat) : val (l.take k) < 256 ^ k := by
  have := val_lt (l.take k)
  have hl : (l.take k).length ≤ k := List.length_take_le _ _
  exact Nat.lt_of_lt_of_le this (Nat.pow_le_pow_right (by omega) hl)

end Go.Proofs.YtgbpofgmomglfaaDoor.Oct
