/-
  The walks of the plain Open.
-/
import Derived.Test.YtnlgegfmabbgmaaDoorFrOpen2
namespace Go.Proofs.YtnlgegfmabbgmaaDoor.Crc
open Go.RowKit
open Oct (bs u8v gb)

set_option maxHeartbeats 1000000 in
theorem ropen_err (s : ByteArray) (w : World) (hs : s.size ≤ 9223372036854775807) (n : Int) (k e : Nat) (hg : gb (bs s) = (n, k, e)) (he : e ≠ 0) :
    Calls Tryd.prog 14 #[.string s] w fun x w' => x = two ([], e) ∧ Below w.heap.size w w' := by
  have H1 : ∀ W : World, Calls Tryd.prog 19 #[.string s] W fun x w' => x = .returned (.tuple #[.int .i64 n, .int .i64 k, .int .i64 e]) ∧ Below W.heap.size W w' := fun W => by
    have := Oct.rget_any s W hs; rw [hg] at this; exact this
  have K1 := Lib.hid H1
  have t1 : ((e : Int) != 0) = true := by rw [bne_iff_ne]; omega
  have t2 : ((e : Int) == 0) = false := by rw [beq_eq_false_iff_ne]; omega
  have H9 : Hid (e ≠ 0) := he
  clear H1 hg he
  go_enter Tryd.func14, Tryd.ntmps14
  go_wp2_with fail
  refine (K1.out _).mono ?_
  rintro x w1 ⟨rfl, b1⟩
  go_wp2
  go_ret2
  exact ⟨rfl, b1⟩

set_option maxHeartbeats 1000000 in
theorem ropen_neg (s : ByteArray) (w : World) (hs : s.size ≤ 9223372036854775807) (n : Int) (k : Nat) (hg : gb (bs s) = (n, k, 0)) (hn : n < 0) :
    Calls Tryd.prog 14 #[.string s] w fun x w' => x = two ([], 2) ∧ Below w.heap.size w w' := by
  have H1 : ∀ W : World, Calls Tryd.prog 19 #[.string s] W fun x w' => x = .returned (.tuple #[.int .i64 n, .int .i64 k, .int .i64 0]) ∧ Below W.heap.size W w' := fun W => by
    have := Oct.rget_any s W hs; rw [hg] at this; exact this
  have K1 := Lib.hid H1
  clear H1 hg
  go_enter Tryd.func14, Tryd.ntmps14
  go_wp2_with fail
  refine (K1.out _).mono ?_
  rintro x w1 ⟨rfl, b1⟩
  go_wp2
  go_ret2
  exact ⟨rfl, b1⟩

set_option maxHeartbeats 1000000 in
theorem ropen_long (s : ByteArray) (w : World) (hs : s.size ≤ 9223372036854775807) (n : Int) (k : Nat) (hg : gb (bs s) = (n, k, 0)) (hn : 1048576 < n) :
    Calls Tryd.prog 14 #[.string s] w fun x w' => x = two ([], 6) ∧ Below w.heap.size w w' := by
  have H1 : ∀ W : World, Calls Tryd.prog 19 #[.string s] W fun x w' => x = .returned (.tuple #[.int .i64 n, .int .i64 k, .int .i64 0]) ∧ Below W.heap.size W w' := fun W => by
    have := Oct.rget_any s W hs; rw [hg] at this; exact this
  have K1 := Lib.hid H1
  clear H1 hg
  go_enter Tryd.func14, Tryd.ntmps14
  go_wp2_with fail
  refine (K1.out _).mono ?_
  rintro x w1 ⟨rfl, b1⟩
  go_wp2
  go_ret2
  exact ⟨rfl, b1⟩

set_option maxHeartbeats 1000000 in
theorem ropen_short (s : ByteArray) (w : World) (hs : s.size ≤ 9223372036854775807) (n : Int) (k : Nat) (hg : gb (bs s) = (n, k, 0)) (hn : 0 ≤ n) (hn2 : n ≤ 1048576) (hk : k ≤ 8) (hl : (s.size : Int) < k + n + 4) :
    Calls Tryd.prog 14 #[.string s] w fun x w' => x = two ([], 3) ∧ Below w.heap.size w w' := by
  have H1 : ∀ W : World, Calls Tryd.prog 19 #[.string s] W fun x w' => x = .returned (.tuple #[.int .i64 n, .int .i64 k, .int .i64 0]) ∧ Below W.heap.size W w' := fun W => by
    have := Oct.rget_any s W hs; rw [hg] at this; exact this
  have K1 := Lib.hid H1
  clear H1 hg
  go_enter Tryd.func14, Tryd.ntmps14
  go_wp2_with fail
  refine (K1.out _).mono ?_
  rintro x w1 ⟨rfl, b1⟩
  go_wp2
  go_ret2
  exact ⟨rfl, b1⟩

set_option maxHeartbeats 1000000 in
theorem ropen_tail (s : ByteArray) (w : World) (hs : s.size ≤ 9223372036854775807) (n : Int) (k : Nat) (hg : gb (bs s) = (n, k, 0)) (hn : 0 ≤ n) (hn2 : n ≤ 1048576) (hk : k ≤ 8) (hl : k + n + 4 < (s.size : Int)) :
    Calls Tryd.prog 14 #[.string s] w fun x w' => x = two ([], 4) ∧ Below w.heap.size w w' := by
  have H1 : ∀ W : World, Calls Tryd.prog 19 #[.string s] W fun x w' => x = .returned (.tuple #[.int .i64 n, .int .i64 k, .int .i64 0]) ∧ Below W.heap.size W w' := fun W => by
    have := Oct.rget_any s W hs; rw [hg] at this; exact this
  have K1 := Lib.hid H1
  clear H1 hg
  go_enter Tryd.func14, Tryd.ntmps14
  go_wp2_with fail
  refine (K1.out _).mono ?_
  rintro x w1 ⟨rfl, b1⟩
  go_wp2
  go_ret2
  exact ⟨rfl, b1⟩


/-- A frame is right where its body's is it. -/
theorem right_iff (l : List UInt8) (m k : Nat) (hg : gb l = ((m : Int), k, 0)) (hm : m ≤ 1048576) (hl : l.length = k + m + 4) :
    wr ((l.take (k + m)).drop k) = l ↔ l.drop (k + m) = le4 (sum (l.take (k + m))) := by
  obtain ⟨h1, h2⟩ := gb_canon l (by rw [hg])
  rw [hg] at h1 h2
  simp only at h1 h2
  have hlen : ((l.take (k + m)).drop k).length = m := by rw [List.length_drop, List.length_take]; omega
  have e1 : Oct.pb (m : Int) ++ (l.take (k + m)).drop k = l.take (k + m) := by
    have : l.take k = Oct.pb (m : Int) := by
      conv => lhs; rw [h1]
      rw [← h2, List.take_append_of_le_length (Nat.le_refl _), List.take_of_length_le (Nat.le_refl _)]
    rw [← this]
    conv => rhs; rw [← List.take_append_drop k (l.take (k + m)), List.take_take, Nat.min_eq_left (by omega)]
  rw [wr, hlen, if_neg (by omega), e1]
  constructor
  · intro h
    have := congrArg (List.drop (k + m)) h
    rw [List.drop_append_of_le_length (by rw [List.length_take]; omega), List.drop_of_length_le (by rw [List.length_take]; omega), List.nil_append] at this
    exact this.symm
  · intro h
    rw [← h, List.take_append_drop]

set_option maxHeartbeats 1000000 in
theorem ropen_sum (s : ByteArray) (w : World) (hs : s.size ≤ 9223372036854775807) (m k E : Nat) (hg : gb (bs s) = ((m : Int), k, 0)) (hn2 : m ≤ 1048576) (hk : k ≤ 8) (hE : E = k + m) (hl : s.size = E + 4) :
    Calls Tryd.prog 14 #[.string s] w fun x w' => x = two (if (bs s).drop E = le4 (sum ((bs s).take E)) then (((bs s).take E).drop k, 0) else ([], 5)) ∧ Below w.heap.size w w' := by
  have hiff := right_iff (bs s) m k hg hn2 (by rw [Oct.bs_length]; omega)
  rw [← hE] at hiff
  have H1 : ∀ W : World, Calls Tryd.prog 19 #[.string s] W fun x w' => x = .returned (.tuple #[.int .i64 m, .int .i64 k, .int .i64 0]) ∧ Below W.heap.size W w' := fun W => by
    have := Oct.rget_any s W hs; rw [hg] at this; exact this
  obtain ⟨c, hc⟩ : ∃ c, c = s.extract k E := ⟨_, rfl⟩
  have hbc : bs c = ((bs s).take E).drop k := by rw [hc, bs_mid]
  obtain ⟨q, hq⟩ : ∃ q : ByteArray, q = ⟨(wr (bs c)).toArray⟩ := ⟨_, rfl⟩
  have hbq : bs q = wr (((bs s).take E).drop k) := by rw [hq, hbc]
  rw [← hbq] at hiff
  have H2 : ∀ W : World, Calls Tryd.prog 13 #[.string c] W fun e w' => e = .returned (.string q) ∧ Below W.heap.size W w' := fun W => by rw [hq]; exact rwrap_any c W
  have s3 : ∀ W : World, (Instr.slice 9 (.string s) (some (.int .i64 (k : Int))) (some (.int .i64 (E : Int))) none).run Tryd.prog W = .ok (.string c) W := fun W => by rw [hc]; exact sl_lh s k E (by omega) (by omega) W
  have hsum : (k : Int) + (m : Int) = (E : Int) := by omega
  have hfit : ¬ ((s.size : Int) < (E : Int) + 4) := by omega
  have hfit2 : ¬ ((E : Int) + 4 < (s.size : Int)) := by omega
  have hE2 : E ≤ 1048584 := by omega
  have K1 := Lib.hid H1
  have K2 := Lib.hid H2
  rw [← hbc]
  clear hc hbc hq hbq H1 H2 hE hl hg
  by_cases hcmp : bs q = bs s
  · rw [if_pos (hiff.1 hcmp)]
    have t1 := neq_false hcmp
    have KC := Lib.hid hcmp
    clear hcmp hiff
    go_enter Tryd.func14, Tryd.ntmps14
    go_wp2_with fail
    refine (K1.out _).mono ?_
    rintro x w1 ⟨rfl, b1⟩
    go_wp2_with fail
    refine (K2.out _).mono ?_
    rintro x w2 ⟨rfl, b2⟩
    go_wp2
    go_ret2
    exact ⟨rfl, b1.trans (b2.mono b1.size)⟩
  · rw [if_neg (fun h => hcmp (hiff.2 h))]
    have t1 := neq_true hcmp
    have KC := Lib.hid hcmp
    clear hcmp hiff
    go_enter Tryd.func14, Tryd.ntmps14
    go_wp2_with fail
    refine (K1.out _).mono ?_
    rintro x w1 ⟨rfl, b1⟩
    go_wp2_with fail
    refine (K2.out _).mono ?_
    rintro x w2 ⟨rfl, b2⟩
    go_wp2
    go_ret2
    exact ⟨rfl, b1.trans (b2.mono b1.size)⟩

/-- The plain Open, whatever comes in. -/
theorem ropen_any (s : ByteArray) (w : World) (hs : s.size ≤ 9223372036854775807) :
    Calls Tryd.prog 14 #[.string s] w fun x w' => x = two (op (bs s)) ∧ Below w.heap.size w w' := by
  obtain ⟨⟨n, k, e⟩, hg⟩ : ∃ r, gb (bs s) = r := ⟨_, rfl⟩
  have hk : k ≤ 8 := by have := gb_small (bs s); rw [hg] at this; exact this
  have hl := Oct.bs_length s
  unfold op
  rw [hg]
  simp only
  by_cases he : e = 0
  · subst he
    rw [if_neg (by simp)]
    by_cases hn : n < 0
    · rw [if_pos hn]; exact ropen_neg s w hs n k hg hn
    · rw [if_neg hn]
      by_cases hn2 : 1048576 < n
      · rw [if_pos hn2]; exact ropen_long s w hs n k hg hn2
      · rw [if_neg hn2]
        obtain ⟨m, rfl⟩ := Int.eq_ofNat_of_zero_le (show 0 ≤ n by omega)
        simp only [Int.toNat_natCast]
        by_cases h3 : (bs s).length < k + m + 4
        · rw [if_pos h3]; exact ropen_short s w hs m k hg (by omega) (by omega) hk (by omega)
        · rw [if_neg h3]
          by_cases h4 : k + m + 4 < (bs s).length
          · rw [if_pos h4]; exact ropen_tail s w hs m k hg (by omega) (by omega) hk (by omega)
          · rw [if_neg h4]
            exact ropen_sum s w hs m k (k + m) hg (by omega) hk rfl (by omega)
  · rw [if_pos he]
    exact ropen_err s w hs n k e hg he

end Go.Proofs.YtnlgegfmabbgmaaDoor.Crc
