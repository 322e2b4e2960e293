/-
  Plain mathematics of the sum of a frame (document, layer 3): the register bit by bit, by nibbles, that it is turned round injectively, and that two right frames of one length that part in four bytes in a row at most are the same.
  It imports nothing of the program.
-/
import Derived.Below
namespace Go.Proofs.YtgbpofgmomglfaaDoor.Crc

/-- One bit falls out of the register. -/
def t1 (r : Nat) : Nat := if r % 2 = 1 then r / 2 ^^^ 3988292384 else r / 2
def t4 (r : Nat) : Nat := t1 (t1 (t1 (t1 r)))
def feed (r : Nat) (c : UInt8) : Nat := t4 (t4 (r ^^^ c.toNat))
def run (r : Nat) (l : List UInt8) : Nat := l.foldl feed r
def sum (l : List UInt8) : Nat := 4294967295 - run 4294967295 l

theorem run_nil (r : Nat) : run r [] = r := rfl
theorem run_cons (r : Nat) (c : UInt8) (l : List UInt8) : run r (c :: l) = run (feed r c) l := rfl
theorem run_append (r : Nat) (a b : List UInt8) : run r (a ++ b) = run (run r a) b := List.foldl_append

theorem xor_lt {a b : Nat} (ha : a < 4294967296) (hb : b < 4294967296) : a ^^^ b < 4294967296 := by
  have := Nat.xor_lt_two_pow (n := 32) (x := a) (y := b) (by simpa using ha) (by simpa using hb)
  simpa using this
theorem xor_mod2 (a b : Nat) : (a ^^^ b) % 2 = (a + b) % 2 := by
  have h := Nat.testBit_xor a b 0
  simp only [Nat.testBit_zero] at h
  have ha : a % 2 = 0 ∨ a % 2 = 1 := by omega
  have hb : b % 2 = 0 ∨ b % 2 = 1 := by omega
  have hc : (a ^^^ b) % 2 = 0 ∨ (a ^^^ b) % 2 = 1 := by omega
  rcases ha with ha | ha <;> rcases hb with hb | hb <;> rcases hc with hc | hc <;> simp [ha, hb, hc] at h ⊢ <;> omega
theorem xor_div2 (a b : Nat) : (a ^^^ b) / 2 = a / 2 ^^^ b / 2 := by
  apply Nat.eq_of_testBit_eq
  intro i
  rw [← Nat.testBit_succ, Nat.testBit_xor, Nat.testBit_xor, Nat.testBit_succ, Nat.testBit_succ]
theorem xor_comm4 (a b c d : Nat) : (a ^^^ b) ^^^ (c ^^^ d) = (a ^^^ c) ^^^ (b ^^^ d) := by
  rw [Nat.xor_assoc, Nat.xor_assoc, ← Nat.xor_assoc b c d, Nat.xor_comm b c, Nat.xor_assoc c b d]

theorem t1_lt {r : Nat} (h : r < 4294967296) : t1 r < 4294967296 := by
  unfold t1
  split
  · exact xor_lt (by omega) (by omega)
  · omega
theorem t1_xor (a b : Nat) : t1 (a ^^^ b) = t1 a ^^^ t1 b := by
  have hm := xor_mod2 a b
  have hd := xor_div2 a b
  unfold t1
  rw [hm, hd]
  by_cases ha : a % 2 = 1 <;> by_cases hb : b % 2 = 1
  · rw [if_pos ha, if_pos hb, if_neg (by omega), xor_comm4, Nat.xor_self, Nat.xor_zero]
  · rw [if_pos ha, if_neg hb, if_pos (by omega), Nat.xor_assoc, Nat.xor_assoc, Nat.xor_comm (b / 2)]
  · rw [if_neg ha, if_pos hb, if_pos (by omega), Nat.xor_assoc]
  · rw [if_neg ha, if_neg hb, if_neg (by omega)]
theorem t1_double {r : Nat} : t1 (2 * r) = r := by
  unfold t1
  rw [if_neg (by omega)]; omega
theorem t1_zero {r : Nat} (h : r < 4294967296) (h0 : t1 r = 0) : r = 0 := by
  unfold t1 at h0
  split at h0
  · exfalso
    have h1 : r / 2 = 3988292384 := by
      have := congrArg (· ^^^ 3988292384) h0
      rw [Nat.xor_assoc, Nat.xor_self, Nat.xor_zero, Nat.zero_xor] at this
      exact this
    omega
  · omega
theorem xor_zero_eq {a b : Nat} (h : a ^^^ b = 0) : a = b := by
  have := congrArg (· ^^^ b) h
  rw [Nat.xor_assoc, Nat.xor_self, Nat.xor_zero, Nat.zero_xor] at this
  exact this
theorem t1_inj {a b : Nat} (ha : a < 4294967296) (hb : b < 4294967296) (h : t1 a = t1 b) : a = b := by
  apply xor_zero_eq
  apply t1_zero (xor_lt ha hb)
  rw [t1_xor, h, Nat.xor_self]

theorem t4_lt {r : Nat} (h : r < 4294967296) : t4 r < 4294967296 := t1_lt (t1_lt (t1_lt (t1_lt h)))
theorem t4_xor (a b : Nat) : t4 (a ^^^ b) = t4 a ^^^ t4 b := by simp only [t4, t1_xor]
theorem t4_inj {a b : Nat} (ha : a < 4294967296) (hb : b < 4294967296) (h : t4 a = t4 b) : a = b :=
  t1_inj ha hb (t1_inj (t1_lt ha) (t1_lt hb) (t1_inj (t1_lt (t1_lt ha)) (t1_lt (t1_lt hb)) (t1_inj (t1_lt (t1_lt (t1_lt ha))) (t1_lt (t1_lt (t1_lt hb))) h)))
theorem t4_shift (q : Nat) : t4 (16 * q) = q := by
  unfold t4
  rw [show 16 * q = 2 * (2 * (2 * (2 * q))) from by omega, t1_double, t1_double, t1_double, t1_double]
theorem split16 (r : Nat) : r = 16 * (r / 16) ^^^ r % 16 := by
  have := Nat.two_pow_add_eq_or_of_lt (i := 4) (b := r % 16) (by simpa using Nat.mod_lt r (by omega)) (r / 16)
  have h2 : 2 ^ 4 * (r / 16) ^^^ r % 16 = 2 ^ 4 * (r / 16) ||| r % 16 := by
    apply Nat.eq_of_testBit_eq
    intro i
    rw [Nat.testBit_xor, Nat.testBit_or, Nat.testBit_two_pow_mul]
    by_cases hi : i < 4
    · have : ¬ 4 ≤ i := by omega
      simp [this]
    · have : (r % 16).testBit i = false := Nat.testBit_lt_two_pow (Nat.lt_of_lt_of_le (Nat.mod_lt r (by omega)) (by
        have : 2 ^ 4 ≤ 2 ^ i := Nat.pow_le_pow_right (by omega) (by omega)
        simpa using this))
      simp [this]
  rw [show (16 : Nat) = 2 ^ 4 from rfl] at *
  rw [h2, ← this]
  omega
/-- By nibbles. -/
theorem t4_nibble (r : Nat) : t4 r = r / 16 ^^^ t4 (r % 16) := by
  conv => lhs; rw [split16 r]
  rw [t4_xor, t4_shift]

def table : List Nat := [0, 498536548, 997073096, 651767980, 1994146192, 1802195444, 1303535960, 1342533948, 3988292384, 4027552580, 3604390888, 3412177804, 2607071920, 2262029012, 2685067896, 3183342108]
theorem table_eq (k : Nat) (h : k < 16) : t4 k = table.getD k 0 := by
  have : ∀ k : Fin 16, t4 k.val = table.getD k.val 0 := by decide +kernel
  exact this ⟨k, h⟩

theorem feed_lt {r : Nat} (h : r < 4294967296) (c : UInt8) : feed r c < 4294967296 := t4_lt (t4_lt (xor_lt h (by have := c.toNat_lt; omega)))
theorem run_lt {r : Nat} (h : r < 4294967296) (l : List UInt8) : run r l < 4294967296 := by
  induction l generalizing r with
  | nil => exact h
  | cons c l ih => exact ih (feed_lt h c)
theorem feed_inj {a b : Nat} (ha : a < 4294967296) (hb : b < 4294967296) (c : UInt8) (h : feed a c = feed b c) : a = b := by
  have hc : c.toNat < 4294967296 := by have := c.toNat_lt; omega
  have h1 := t4_inj (xor_lt ha hc) (xor_lt hb hc) (t4_inj (t4_lt (xor_lt ha hc)) (t4_lt (xor_lt hb hc)) h)
  have := congrArg (· ^^^ c.toNat) h1
  rw [Nat.xor_assoc, Nat.xor_self, Nat.xor_zero, Nat.xor_assoc, Nat.xor_self, Nat.xor_zero] at this
  exact this
theorem run_inj {a b : Nat} (ha : a < 4294967296) (hb : b < 4294967296) (l : List UInt8) (h : run a l = run b l) : a = b := by
  induction l generalizing a b with
  | nil => exact h
  | cons c l ih => exact feed_inj ha hb c (ih (feed_lt ha c) (feed_lt hb c) h)

/-- Eight bits. -/
def t8 (r : Nat) : Nat := t4 (t4 r)
theorem t8_xor (a b : Nat) : t8 (a ^^^ b) = t8 a ^^^ t8 b := by simp only [t8, t4_xor]
theorem t8_shift (q : Nat) : t8 (256 * q) = q := by
  unfold t8
  rw [show 256 * q = 16 * (16 * q) from by omega, t4_shift, t4_shift]
theorem t8_lt {r : Nat} (h : r < 4294967296) : t8 r < 4294967296 := t4_lt (t4_lt h)
theorem t8_inj {a b : Nat} (ha : a < 4294967296) (hb : b < 4294967296) (h : t8 a = t8 b) : a = b := t4_inj ha hb (t4_inj (t4_lt ha) (t4_lt hb) h)
theorem feed_t8 (r : Nat) (c : UInt8) : feed r c = t8 (r ^^^ c.toNat) := rfl

/-- The number of four bytes, the lowest first. -/
def num4 (a b c d : UInt8) : Nat := a.toNat ^^^ 256 * (b.toNat ^^^ 256 * (c.toNat ^^^ 256 * d.toNat))
theorem run4 (r : Nat) (a b c d : UInt8) : run r [a, b, c, d] = t8 (t8 (t8 (t8 (r ^^^ num4 a b c d)))) := by
  simp only [run_cons, run_nil, feed_t8, num4]
  rw [← Nat.xor_assoc r, t8_xor (r ^^^ a.toNat), t8_shift, ← Nat.xor_assoc (t8 _), t8_xor (_ ^^^ b.toNat), t8_shift, ← Nat.xor_assoc (t8 _), t8_xor (_ ^^^ c.toNat), t8_shift]

theorem low_xor (a : UInt8) (x : Nat) : (a.toNat ^^^ 256 * x) % 256 = a.toNat ∧ (a.toNat ^^^ 256 * x) / 256 = x := by
  have ha := a.toNat_lt
  have e : a.toNat ^^^ 256 * x = 256 * x + a.toNat := by
    rw [Nat.xor_comm]
    have h1 := Nat.two_pow_add_eq_or_of_lt (i := 8) (b := a.toNat) (by simpa using ha) x
    have h2 : 2 ^ 8 * x ^^^ a.toNat = 2 ^ 8 * x ||| a.toNat := by
      apply Nat.eq_of_testBit_eq
      intro i
      rw [Nat.testBit_xor, Nat.testBit_or, Nat.testBit_two_pow_mul]
      by_cases hi : i < 8
      · have : ¬ 8 ≤ i := by omega
        simp [this]
      · have : a.toNat.testBit i = false := Nat.testBit_lt_two_pow (Nat.lt_of_lt_of_le ha (by
          have : 2 ^ 8 ≤ 2 ^ i := Nat.pow_le_pow_right (by omega) (by omega)
          simpa using this))
        simp [this]
    rw [show (256 : Nat) = 2 ^ 8 from rfl, h2, ← h1]
  rw [e]; omega
theorem num4_lt (a b c d : UInt8) : num4 a b c d < 4294967296 := by
  have h1 := low_xor a (b.toNat ^^^ 256 * (c.toNat ^^^ 256 * d.toNat))
  have h2 := low_xor b (c.toNat ^^^ 256 * d.toNat)
  have h3 := low_xor c d.toNat
  have ha := a.toNat_lt
  have hb := b.toNat_lt
  have hc := c.toNat_lt
  have hd := d.toNat_lt
  unfold num4
  omega
theorem num4_inj {a b c d a' b' c' d' : UInt8} (h : num4 a b c d = num4 a' b' c' d') : a = a' ∧ b = b' ∧ c = c' ∧ d = d' := by
  unfold num4 at h
  have h1 := low_xor a (b.toNat ^^^ 256 * (c.toNat ^^^ 256 * d.toNat))
  have h2 := low_xor b (c.toNat ^^^ 256 * d.toNat)
  have h3 := low_xor c d.toNat
  have h1' := low_xor a' (b'.toNat ^^^ 256 * (c'.toNat ^^^ 256 * d'.toNat))
  have h2' := low_xor b' (c'.toNat ^^^ 256 * d'.toNat)
  have h3' := low_xor c' d'.toNat
  rw [h] at h1
  have e2 : b.toNat ^^^ 256 * (c.toNat ^^^ 256 * d.toNat) = b'.toNat ^^^ 256 * (c'.toNat ^^^ 256 * d'.toNat) := by omega
  rw [e2] at h2
  have e3 : c.toNat ^^^ 256 * d.toNat = c'.toNat ^^^ 256 * d'.toNat := by omega
  rw [e3] at h3
  exact ⟨UInt8.toNat_inj.1 (by omega), UInt8.toNat_inj.1 (by omega), UInt8.toNat_inj.1 (by omega), UInt8.toNat_inj.1 (by omega)⟩

/-- Four bytes that part turn the register. -/
theorem burst4 {r : Nat} (hr : r < 4294967296) {a b c d a' b' c' d' : UInt8} (h : run r [a, b, c, d] = run r [a', b', c', d']) : a = a' ∧ b = b' ∧ c = c' ∧ d = d' := by
  rw [run4, run4] at h
  have h0 := xor_lt hr (num4_lt a b c d)
  have h0' := xor_lt hr (num4_lt a' b' c' d')
  have h1 := t8_inj h0 h0' (t8_inj (t8_lt h0) (t8_lt h0') (t8_inj (t8_lt (t8_lt h0)) (t8_lt (t8_lt h0')) (t8_inj (t8_lt (t8_lt (t8_lt h0))) (t8_lt (t8_lt (t8_lt h0'))) h)))
  have h2 := congrArg (r ^^^ ·) h1
  rw [← Nat.xor_assoc, ← Nat.xor_assoc, Nat.xor_self, Nat.zero_xor, Nat.zero_xor] at h2
  exact num4_inj h2
theorem burst {r : Nat} (hr : r < 4294967296) (u u' : List UInt8) (hl : u.length = u'.length) (h4 : u.length ≤ 4) (h : run r u = run r u') : u = u' := by
  have pad : ∀ z : List UInt8, run r (u ++ z) = run r (u' ++ z) := fun z => by rw [run_append, run_append, h]
  match u, u', hl, h4 with
  | [], [], _, _ => rfl
  | [a], [a'], _, _ =>
    obtain ⟨rfl, -⟩ := burst4 hr (pad [0, 0, 0]); rfl
  | [a, b], [a', b'], _, _ =>
    obtain ⟨rfl, rfl, -⟩ := burst4 hr (pad [0, 0]); rfl
  | [a, b, c], [a', b', c'], _, _ =>
    obtain ⟨rfl, rfl, rfl, -⟩ := burst4 hr (pad [0]); rfl
  | [a, b, c, d], [a', b', c', d'], _, _ =>
    obtain ⟨rfl, rfl, rfl, rfl⟩ := burst4 hr (pad []); rfl
  | _ :: _ :: _ :: _ :: _ :: _, _, _, h4 => simp at h4

/-- A number's four bytes, the lowest first. -/
def le4 (v : Nat) : List UInt8 := [UInt8.ofNat v, UInt8.ofNat (v / 256), UInt8.ofNat (v / 65536), UInt8.ofNat (v / 16777216)]
theorem le4_len (v : Nat) : (le4 v).length = 4 := rfl
theorem num_le4 (v : Nat) (h : v < 4294967296) : num4 (UInt8.ofNat v) (UInt8.ofNat (v / 256)) (UInt8.ofNat (v / 65536)) (UInt8.ofNat (v / 16777216)) = v := by
  have h1 := low_xor (UInt8.ofNat v) ((UInt8.ofNat (v / 256)).toNat ^^^ 256 * ((UInt8.ofNat (v / 65536)).toNat ^^^ 256 * (UInt8.ofNat (v / 16777216)).toNat))
  have h2 := low_xor (UInt8.ofNat (v / 256)) ((UInt8.ofNat (v / 65536)).toNat ^^^ 256 * (UInt8.ofNat (v / 16777216)).toNat)
  have h3 := low_xor (UInt8.ofNat (v / 65536)) (UInt8.ofNat (v / 16777216)).toNat
  have e1 : (UInt8.ofNat v).toNat = v % 256 := UInt8.toNat_ofNat'
  have e2 : (UInt8.ofNat (v / 256)).toNat = v / 256 % 256 := UInt8.toNat_ofNat'
  have e3 : (UInt8.ofNat (v / 65536)).toNat = v / 65536 % 256 := UInt8.toNat_ofNat'
  have e4 : (UInt8.ofNat (v / 16777216)).toNat = v / 16777216 % 256 := UInt8.toNat_ofNat'
  unfold num4
  omega
theorem sum_lt (l : List UInt8) : sum l < 4294967296 := by unfold sum; omega
theorem compl (r : Nat) (h : r < 4294967296) : 4294967295 ^^^ r = 4294967295 - r := by
  apply Nat.eq_of_testBit_eq
  intro i
  rw [show 4294967295 - r = 2 ^ 32 - (r + 1) from by omega, Nat.testBit_two_pow_sub_succ (by simpa using h), Nat.testBit_xor, show (4294967295 : Nat) = 2 ^ 32 - 1 from rfl, Nat.testBit_two_pow_sub_one]
  by_cases hi : i < 32
  · simp [hi]
  · have : r.testBit i = false := Nat.testBit_lt_two_pow (Nat.lt_of_lt_of_le h (by
      have : 2 ^ 32 ≤ 2 ^ i := Nat.pow_le_pow_right (by omega) (by omega)
      simpa using this))
    simp [hi, this]
theorem compl_xor (r : Nat) (h : r < 4294967296) : r ^^^ (4294967295 - r) = 4294967295 := by
  rw [← compl r h, Nat.xor_comm 4294967295, ← Nat.xor_assoc, Nat.xor_self, Nat.zero_xor]
/-- Behind its sum the register is always the same. -/
theorem run_right (l : List UInt8) : run 4294967295 (l ++ le4 (sum l)) = t8 (t8 (t8 (t8 4294967295))) := by
  have hr : run 4294967295 l < 4294967296 := run_lt (by omega) l
  rw [run_append, le4, run4, num_le4 _ (sum_lt l), sum, compl_xor _ hr]

/-- Two texts that bear their sums, of one length, and part in four bytes in a row at most, are the same. -/
theorem apart (p u u' q l l' : List UInt8) (hl : u.length = u'.length) (h4 : u.length ≤ 4)
    (h : p ++ (u ++ q) = l ++ le4 (sum l)) (h' : p ++ (u' ++ q) = l' ++ le4 (sum l')) : u = u' := by
  have e : run 4294967295 (p ++ (u ++ q)) = run 4294967295 (p ++ (u' ++ q)) := by rw [h, h', run_right, run_right]
  have hp : run 4294967295 p < 4294967296 := run_lt (by omega) p
  rw [run_append, run_append, run_append, run_append] at e
  exact burst hp u u' hl h4 (run_inj (run_lt hp u) (run_lt hp u') q e)

end Go.Proofs.YtgbpofgmomglfaaDoor.Crc
