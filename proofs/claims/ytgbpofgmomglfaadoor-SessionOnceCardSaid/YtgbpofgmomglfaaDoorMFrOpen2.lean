/-
  The walks of frame.Open and the plain Open.
-/
import Derived.Test.YtgbpofgmomglfaaDoorMFrOpen
import Derived.Lib.IndexBytes
namespace Go.Proofs.YtgbpofgmomglfaaDoor.Crc
set_option maxRecDepth 100000
open Go.RowKit
open Oct (bs u8v gb)

/-- What stands in a frame, or what is wrong with it. -/
def op (l : List UInt8) : List UInt8 × Nat :=
  if (gb l).2.2 ≠ 0 then ([], (gb l).2.2) else if (gb l).1 < 0 then ([], 2) else if 1048576 < (gb l).1 then ([], 6) else
  if l.length < (gb l).2.1 + (gb l).1.toNat + 4 then ([], 3) else if (gb l).2.1 + (gb l).1.toNat + 4 < l.length then ([], 4) else
  if l.drop ((gb l).2.1 + (gb l).1.toNat) = le4 (sum (l.take ((gb l).2.1 + (gb l).1.toNat))) then ((l.take ((gb l).2.1 + (gb l).1.toNat)).drop (gb l).2.1, 0) else ([], 5)

theorem gb_small (l : List UInt8) : (gb l).2.1 ≤ 8 := by
  match l with
  | [] => simp [gb]
  | c :: l =>
    unfold gb
    simp only
    split
    · simp
    · split
      · simp
      · split
        · simp
        · simp only; omega
/-- The bytes of the number that stands at the head are the number's. -/
theorem gb_canon (l : List UInt8) (h : (gb l).2.2 = 0) : l = Oct.pb (gb l).1 ++ l.drop (gb l).2.1 ∧ (Oct.pb (gb l).1).length = (gb l).2.1 := by
  match l, h with
  | [], h => exact absurd h (by decide)
  | c :: l, h =>
    by_cases h1 : 7 < c.toNat % 128 ∨ c.toNat = 128
    · exfalso
      rw [show gb (c :: l) = (0, 0, 2) from by simp only [gb]; rw [if_pos h1]] at h
      exact absurd h (by decide)
    · by_cases h2 : l.length < c.toNat % 128
      · exfalso
        rw [show gb (c :: l) = (0, 0, 3) from by simp only [gb]; rw [if_neg h1, if_pos h2]] at h
        exact absurd h (by decide)
      · have hb := Oct.gb_by_pb c l h1 h2
        generalize (if 127 < c.toNat then -(Oct.val (l.take (c.toNat % 128)) : Int) else (Oct.val (l.take (c.toNat % 128)) : Int)) = n at hb
        by_cases he : Oct.pb n = c :: l.take (c.toNat % 128)
        · rw [if_pos he] at hb
          rw [hb, he]
          refine ⟨?_, ?_⟩
          · rw [List.cons_append, List.drop_succ_cons, List.take_append_drop]
          · rw [List.length_cons, List.length_take]; simp only; omega
        · rw [if_neg he] at hb
          rw [hb] at h
          exact absurd h (by decide)

/-- Two results: a text and a number. -/
def two (r : List UInt8 × Nat) : Ending := .returned (.tuple #[.string ⟨r.1.toArray⟩, .int .i64 r.2])

set_option maxHeartbeats 1000000 in
theorem open_err (s : ByteArray) (w : World) (hs : s.size ≤ 9223372036854775807) (n : Int) (k e : Nat) (hg : gb (bs s) = (n, k, e)) (he : e ≠ 0) :
    Calls Tryd.prog 33 #[.string s] w fun x w' => x = two ([], e) ∧ w = w' := by
  have H1 : ∀ W : World, Calls Tryd.prog 59 #[.string s] W fun x w' => x = .returned (.tuple #[.int .i64 n, .int .i64 k, .int .i64 e]) ∧ W = w' := fun W => by
    have := Oct.get_any s W hs; rw [hg] at this; exact this
  have K1 := Lib.hid H1
  have t1 : ((e : Int) != 0) = true := by rw [bne_iff_ne]; omega
  have t2 : ((e : Int) == 0) = false := by rw [beq_eq_false_iff_ne]; omega
  have H9 : Hid (e ≠ 0) := he
  clear H1 hg he
  go_enter Tryd.func33, Tryd.ntmps33
  go_wp2_with fail
  refine (K1.out _).mono ?_
  rintro x w1 ⟨rfl, rfl⟩
  go_wp2
  go_ret2
  exact ⟨rfl, rfl⟩

set_option maxHeartbeats 1000000 in
theorem open_neg (s : ByteArray) (w : World) (hs : s.size ≤ 9223372036854775807) (n : Int) (k : Nat) (hg : gb (bs s) = (n, k, 0)) (hn : n < 0) :
    Calls Tryd.prog 33 #[.string s] w fun x w' => x = two ([], 2) ∧ w = w' := by
  have H1 : ∀ W : World, Calls Tryd.prog 59 #[.string s] W fun x w' => x = .returned (.tuple #[.int .i64 n, .int .i64 k, .int .i64 0]) ∧ W = w' := fun W => by
    have := Oct.get_any s W hs; rw [hg] at this; exact this
  have K1 := Lib.hid H1
  clear H1 hg
  go_enter Tryd.func33, Tryd.ntmps33
  go_wp2_with fail
  refine (K1.out _).mono ?_
  rintro x w1 ⟨rfl, rfl⟩
  go_wp2
  go_ret2
  exact ⟨rfl, rfl⟩

set_option maxHeartbeats 1000000 in
theorem open_long (s : ByteArray) (w : World) (hs : s.size ≤ 9223372036854775807) (n : Int) (k : Nat) (hg : gb (bs s) = (n, k, 0)) (hn : 1048576 < n) :
    Calls Tryd.prog 33 #[.string s] w fun x w' => x = two ([], 6) ∧ w = w' := by
  have H1 : ∀ W : World, Calls Tryd.prog 59 #[.string s] W fun x w' => x = .returned (.tuple #[.int .i64 n, .int .i64 k, .int .i64 0]) ∧ W = w' := fun W => by
    have := Oct.get_any s W hs; rw [hg] at this; exact this
  have K1 := Lib.hid H1
  clear H1 hg
  go_enter Tryd.func33, Tryd.ntmps33
  go_wp2_with fail
  refine (K1.out _).mono ?_
  rintro x w1 ⟨rfl, rfl⟩
  go_wp2
  go_ret2
  exact ⟨rfl, rfl⟩

set_option maxHeartbeats 1000000 in
theorem open_short (s : ByteArray) (w : World) (hs : s.size ≤ 9223372036854775807) (n : Int) (k : Nat) (hg : gb (bs s) = (n, k, 0)) (hn : 0 ≤ n) (hn2 : n ≤ 1048576) (hk : k ≤ 8) (hl : (s.size : Int) < k + n + 4) :
    Calls Tryd.prog 33 #[.string s] w fun x w' => x = two ([], 3) ∧ w = w' := by
  have H1 : ∀ W : World, Calls Tryd.prog 59 #[.string s] W fun x w' => x = .returned (.tuple #[.int .i64 n, .int .i64 k, .int .i64 0]) ∧ W = w' := fun W => by
    have := Oct.get_any s W hs; rw [hg] at this; exact this
  have K1 := Lib.hid H1
  clear H1 hg
  go_enter Tryd.func33, Tryd.ntmps33
  go_wp2_with fail
  refine (K1.out _).mono ?_
  rintro x w1 ⟨rfl, rfl⟩
  go_wp2
  go_ret2
  exact ⟨rfl, rfl⟩

set_option maxHeartbeats 1000000 in
theorem open_tail (s : ByteArray) (w : World) (hs : s.size ≤ 9223372036854775807) (n : Int) (k : Nat) (hg : gb (bs s) = (n, k, 0)) (hn : 0 ≤ n) (hn2 : n ≤ 1048576) (hk : k ≤ 8) (hl : k + n + 4 < (s.size : Int)) :
    Calls Tryd.prog 33 #[.string s] w fun x w' => x = two ([], 4) ∧ w = w' := by
  have H1 : ∀ W : World, Calls Tryd.prog 59 #[.string s] W fun x w' => x = .returned (.tuple #[.int .i64 n, .int .i64 k, .int .i64 0]) ∧ W = w' := fun W => by
    have := Oct.get_any s W hs; rw [hg] at this; exact this
  have K1 := Lib.hid H1
  clear H1 hg
  go_enter Tryd.func33, Tryd.ntmps33
  go_wp2_with fail
  refine (K1.out _).mono ?_
  rintro x w1 ⟨rfl, rfl⟩
  go_wp2
  go_ret2
  exact ⟨rfl, rfl⟩

theorem sl_h (s : ByteArray) (E : Nat) (hE : E ≤ s.size) (W : World) : (Instr.slice 9 (.string s) none (some (.int .i64 (E : Int))) none).run Tryd.prog W = .ok (.string (s.extract 0 E)) W := by
  rw [run_slice_string_h W 9 s Tryd.underlying9 .i64 _ (by omega) (by omega)]; rfl
theorem sl_l (s : ByteArray) (E : Nat) (hE : E ≤ s.size) (W : World) : (Instr.slice 9 (.string s) (some (.int .i64 (E : Int))) none none).run Tryd.prog W = .ok (.string (s.extract E s.size)) W := by
  rw [run_slice_string_l W 9 s Tryd.underlying9 .i64 _ (by omega) (by omega)]; rfl
theorem sl_lh (s : ByteArray) (k E : Nat) (hk : k ≤ E) (hE : E ≤ s.size) (W : World) : (Instr.slice 9 (.string s) (some (.int .i64 (k : Int))) (some (.int .i64 (E : Int))) none).run Tryd.prog W = .ok (.string (s.extract k E)) W := by
  rw [run_slice_string W 9 s .i64 .i64 _ _ Tryd.underlying9 (by omega) (by omega) (by omega)]; rfl
theorem bs_take (s : ByteArray) (E : Nat) : bs (s.extract 0 E) = (bs s).take E := by
  show (s.extract 0 E).data.toList = _; rw [Lib.extract_data]; rfl
theorem bs_drop (s : ByteArray) (E : Nat) : bs (s.extract E s.size) = (bs s).drop E := Lib.extract_to_end s E
theorem bs_mid (s : ByteArray) (k E : Nat) : bs (s.extract k E) = ((bs s).take E).drop k := by
  show (s.extract k E).data.toList = _
  rw [Lib.extract_data]
  simp [bs, List.drop_take]
theorem bs_inj {a b : ByteArray} (h : bs a = bs b) : a = b := by rw [← mk_bs a, h, mk_bs]
theorem toList_beq (a b : ByteArray) : (a.toList == b.toList) = decide (bs a = bs b) := by
  rw [ByteArray.toList_eq, ByteArray.toList_eq, Bool.eq_iff_iff]; simp


/-- The bytes of two strings are the same, or they aren't: as the walk asks. -/
theorem neq_true {a b : ByteArray} (h : bs a ≠ bs b) : (a.toList == b.toList) = false := by rw [toList_beq]; simpa using h
theorem neq_false {a b : ByteArray} (h : bs a = bs b) : (a.toList == b.toList) = true := by rw [toList_beq]; simpa using h

set_option maxHeartbeats 1000000 in
theorem open_sum (s : ByteArray) (w : World) (hs : s.size ≤ 9223372036854775807) (m k E : Nat) (hg : gb (bs s) = ((m : Int), k, 0)) (hn2 : m ≤ 1048576) (hk : k ≤ 8) (hE : E = k + m) (hl : s.size = E + 4) (hst : Steps w) :
    Calls Tryd.prog 33 #[.string s] w fun x w' => x = two (if (bs s).drop E = le4 (sum ((bs s).take E)) then (((bs s).take E).drop k, 0) else ([], 5)) ∧ Below w.heap.size w w' := by
  have H1 : ∀ W : World, Calls Tryd.prog 59 #[.string s] W fun x w' => x = .returned (.tuple #[.int .i64 m, .int .i64 k, .int .i64 0]) ∧ W = w' := fun W => by
    have := Oct.get_any s W hs; rw [hg] at this; exact this
  obtain ⟨a, ha⟩ : ∃ a, a = s.extract 0 E := ⟨_, rfl⟩
  obtain ⟨b, hb⟩ : ∃ b, b = s.extract E s.size := ⟨_, rfl⟩
  obtain ⟨c, hc⟩ : ∃ c, c = s.extract k E := ⟨_, rfl⟩
  have hba : bs a = (bs s).take E := by rw [ha, bs_take]
  have hbb : bs b = (bs s).drop E := by rw [hb, bs_drop]
  have hbc : bs c = ((bs s).take E).drop k := by rw [hc, bs_mid]
  have has : a.size = E := by rw [← Oct.bs_length, hba, List.length_take, Oct.bs_length]; omega
  obtain ⟨q, hq⟩ : ∃ q : ByteArray, q = ⟨(le4 (sum (bs a))).toArray⟩ := ⟨_, rfl⟩
  have hbq : bs q = le4 (sum ((bs s).take E)) := by rw [hq, hba]
  have H2 : ∀ W : World, Steps W → Calls Tryd.prog 58 #[.string a] W fun e w' => e = .returned (.string q) ∧ Below W.heap.size W w' := fun W h => by rw [hq]; exact sumBytes_any a W (by omega) h
  have s1 : ∀ W : World, (Instr.slice 9 (.string s) none (some (.int .i64 (E : Int))) none).run Tryd.prog W = .ok (.string a) W := fun W => by rw [ha]; exact sl_h s E (by omega) W
  have s2 : ∀ W : World, (Instr.slice 9 (.string s) (some (.int .i64 (E : Int))) none none).run Tryd.prog W = .ok (.string b) W := fun W => by rw [hb]; exact sl_l s E (by omega) W
  have s3 : ∀ W : World, (Instr.slice 9 (.string s) (some (.int .i64 (k : Int))) (some (.int .i64 (E : Int))) none).run Tryd.prog W = .ok (.string c) W := fun W => by rw [hc]; exact sl_lh s k E (by omega) (by omega) W
  have hsum : (k : Int) + (m : Int) = (E : Int) := by omega
  have hfit : ¬ ((s.size : Int) < (E : Int) + 4) := by omega
  have hfit2 : ¬ ((E : Int) + 4 < (s.size : Int)) := by omega
  have hE2 : E ≤ 1048584 := by omega
  have K1 := Lib.hid H1
  have K2 := Lib.hid H2
  have KS := Lib.hid hst
  rw [← hbc, ← hbb, ← hbq]
  clear ha hb hc hba hbb hbc has hq hbq H1 H2 hst hE hl hg
  by_cases hcmp : bs b = bs q
  · rw [if_pos hcmp]
    have t1 := neq_false hcmp
    have KC := Lib.hid hcmp
    clear hcmp
    go_enter Tryd.func33, Tryd.ntmps33
    go_wp2_with fail
    refine (K1.out _).mono ?_
    rintro x w1 ⟨rfl, rfl⟩
    go_wp2
    go_region_with (go_at_call 58; refine (K2.out _ (by first | exact KS.out | exact KS.out.drewN _ | exact KS.out.drew)).mono ?_; rintro x w' ⟨rfl, hb⟩)
    all_goals go_wp2
    all_goals go_ret2
    all_goals exact ⟨rfl, ((Below.refl _ _).drew).trans hb⟩
  · rw [if_neg hcmp]
    have t1 := neq_true hcmp
    have KC := Lib.hid hcmp
    clear hcmp
    go_enter Tryd.func33, Tryd.ntmps33
    go_wp2_with fail
    refine (K1.out _).mono ?_
    rintro x w1 ⟨rfl, rfl⟩
    go_wp2
    go_region_with (go_at_call 58; refine (K2.out _ (by first | exact KS.out | exact KS.out.drewN _ | exact KS.out.drew)).mono ?_; rintro x w' ⟨rfl, hb⟩)
    all_goals go_wp2
    all_goals go_ret2
    all_goals exact ⟨rfl, ((Below.refl _ _).drew).trans hb⟩

/-- frame.Open, whatever comes in. -/
theorem open_any (s : ByteArray) (w : World) (hs : s.size ≤ 9223372036854775807) (hst : Steps w) :
    Calls Tryd.prog 33 #[.string s] w fun x w' => x = two (op (bs s)) ∧ Below w.heap.size w w' := by
  obtain ⟨⟨n, k, e⟩, hg⟩ : ∃ r, gb (bs s) = r := ⟨_, rfl⟩
  have hk : k ≤ 8 := by have := gb_small (bs s); rw [hg] at this; exact this
  have hl := Oct.bs_length s
  unfold op
  rw [hg]
  simp only
  have still : ∀ {r : List UInt8 × Nat}, Calls Tryd.prog 33 #[.string s] w (fun x w' => x = two r ∧ w = w') → Calls Tryd.prog 33 #[.string s] w fun x w' => x = two r ∧ Below w.heap.size w w' := fun h => h.mono fun _ _ ⟨he, hw⟩ => ⟨he, hw ▸ Below.refl _ _⟩
  by_cases he : e = 0
  · subst he
    rw [if_neg (by simp)]
    by_cases hn : n < 0
    · rw [if_pos hn]; exact still (open_neg s w hs n k hg hn)
    · rw [if_neg hn]
      by_cases hn2 : 1048576 < n
      · rw [if_pos hn2]; exact still (open_long s w hs n k hg hn2)
      · rw [if_neg hn2]
        obtain ⟨m, rfl⟩ := Int.eq_ofNat_of_zero_le (show 0 ≤ n by omega)
        simp only [Int.toNat_natCast]
        by_cases h3 : (bs s).length < k + m + 4
        · rw [if_pos h3]; exact still (open_short s w hs m k hg (by omega) (by omega) hk (by omega))
        · rw [if_neg h3]
          by_cases h4 : k + m + 4 < (bs s).length
          · rw [if_pos h4]; exact still (open_tail s w hs m k hg (by omega) (by omega) hk (by omega))
          · rw [if_neg h4]
            exact open_sum s w hs m k (k + m) hg (by omega) hk rfl (by omega) hst
  · rw [if_pos he]
    exact still (open_err s w hs n k e hg he)

end Go.Proofs.YtgbpofgmomglfaaDoor.Crc
