/-
  The walks of the document's plain Sum, and of frame.sumBytes.
-/
import Derived.Test.YtgbpofgmomglfaaDoorFrSum
namespace Go.Proofs.YtgbpofgmomglfaaDoor.Crc
open Go.RowKit
open Oct (bs u8v)

def tb : Nat → Nat → Nat
  | 0, r => r
  | b + 1, r => t1 (tb b r)
theorem tb_lt (b : Nat) {r : Nat} (h : r < 4294967296) : tb b r < 4294967296 := by
  induction b with
  | zero => exact h
  | succ b ih => exact t1_lt ih
/-- The plain register, b bits of the byte c behind r. -/
def plain (r c b : Nat) : Nat := tb b (r ^^^ c) ^^^ c / 2 ^ b
theorem plain_zero (r c : Nat) : plain r c 0 = r := by
  rw [plain, tb, Nat.pow_zero, Nat.div_one, Nat.xor_assoc, Nat.xor_self, Nat.xor_zero]
theorem plain_end (r : Nat) (c : UInt8) : plain r c.toNat 8 = feed r c := by
  have hc := c.toNat_lt
  rw [plain, show c.toNat / 2 ^ 8 = 0 from by omega, Nat.xor_zero]; rfl
theorem plain_xor (r c b : Nat) : plain r c b ^^^ c / 2 ^ b = tb b (r ^^^ c) := by
  rw [plain, Nat.xor_assoc, Nat.xor_self, Nat.xor_zero]
theorem plain_lt {r c : Nat} (b : Nat) (hr : r < 4294967296) (hc : c < 4294967296) : plain r c b < 4294967296 :=
  xor_lt (tb_lt b (xor_lt hr hc)) (Nat.lt_of_le_of_lt (Nat.div_le_self _ _) hc)
theorem plain_even (r c b : Nat) (h : ¬ tb b (r ^^^ c) % 2 = 1) : plain r c (b + 1) = plain r c b / 2 := by
  rw [plain, plain, tb, t1, if_neg h, xor_div2, Nat.pow_succ, Nat.div_div_eq_div_mul]
theorem plain_odd (r c b : Nat) (h : tb b (r ^^^ c) % 2 = 1) : plain r c (b + 1) = plain r c b / 2 ^^^ 3988292384 := by
  rw [plain, plain, tb, t1, if_pos h, xor_div2, Nat.pow_succ, Nat.div_div_eq_div_mul, Nat.xor_assoc, Nat.xor_assoc, Nat.xor_comm 3988292384]

set_option maxHeartbeats 1000000 in
theorem rsum_any (s : ByteArray) (w : World) (hs : s.size ≤ 9223372036854775807) :
    Calls Tryd.prog 38 #[.string s] w fun e w' => e = .returned (.int .u32 ((sum (bs s) : Nat) : Int)) ∧ w = w' := by
  go_enter Tryd.func38, Tryd.ntmps38
  go_wp2
  go_loop [3, 4] (fun r i => ∃ k : Nat, k ≤ s.size ∧ i = .int .i64 k ∧ r = .int .u32 ((run 4294967295 ((bs s).take k) : Nat) : Int)) (fun _ i => s.size - (intOf i).toNat)
  case atStart => exact ⟨0, by omega, rfl, rfl⟩
  case round =>
    obtain ⟨k, hk, rfl, rfl⟩ := hrel
    obtain ⟨r, hr⟩ : ∃ r, r = run 4294967295 ((bs s).take k) := ⟨_, rfl⟩
    have hlt := run_lt (r := 4294967295) (by omega) ((bs s).take k)
    rw [← hr] at hlt ⊢
    by_cases hks : k < s.size
    · have hc := s[k].toNat_lt
      have hfin : feed r s[k] = run 4294967295 ((bs s).take (k + 1)) := by rw [run_take_succ s k hks, ← hr]
      have HF := Lib.hid hfin
      clear hr hfin
      go_wp2
      go_loop [3, 5] (fun R b => ∃ B : Nat, B ≤ 8 ∧ b = .int .i64 B ∧ R = .int .u32 ((plain r s[k].toNat B : Nat) : Int)) (fun _ b => 8 - (intOf b).toNat)
      case atStart => exact ⟨0, by omega, rfl, by rw [plain_zero]⟩
      case round =>
        obtain ⟨B, hB, rfl, rfl⟩ := hrel
        have hpl := plain_lt (r := r) (c := s[k].toNat) B hlt (by omega)
        by_cases hB8 : B < 8
        · have hx := u32_xor_nat (plain r s[k].toNat B) (s[k].toNat / 2 ^ B) hpl (Nat.lt_of_le_of_lt (Nat.div_le_self _ _) (by omega))
          rw [plain_xor] at hx
          have hyl := tb_lt B (xor_lt hlt (show s[k].toNat < 4294967296 by omega))
          have hodd : tb B (r ^^^ s[k].toNat) % 2 = 1 → plain r s[k].toNat (B + 1) = plain r s[k].toNat B / 2 ^^^ 3988292384 := plain_odd r _ B
          have heven : ¬ tb B (r ^^^ s[k].toNat) % 2 = 1 → plain r s[k].toNat (B + 1) = plain r s[k].toNat B / 2 := plain_even r _ B
          obtain ⟨P', hP'⟩ : ∃ P', P' = plain r s[k].toNat (B + 1) := ⟨_, rfl⟩
          have HP' := Lib.hid hP'
          rw [← hP'] at hodd heven
          clear hP'
          obtain ⟨P, hP⟩ : ∃ P, P = plain r s[k].toNat B := ⟨_, rfl⟩
          obtain ⟨y, hy⟩ : ∃ y, y = tb B (r ^^^ s[k].toNat) := ⟨_, rfl⟩
          rw [← hy] at hyl hodd heven hx
          rw [← hP] at hodd heven hx hpl ⊢
          have hx' : bits .xor .u32 (P : Int) ((s[k].toNat : Int) / 2 ^ B) = (y : Int) := by
            rw [← hx]; congr 1
          clear hx hy hP
          by_cases hpar : y % 2 = 1
          · have hz := u32_xor_nat (P / 2) 3988292384 (by omega) (by omega)
            rw [← hodd hpar] at hz
            have hz' : bits .xor .u32 ((P : Int) / 2) 3988292384 = (P' : Int) := hz
            have ht : ((y : Int) % 2 == 1) = true := by rw [beq_iff_eq]; omega
            clear hodd heven hz
            go_wp2
            go_round
            case rel => exact ⟨B + 1, by omega, by go_num, by rw [HP'.out]⟩
            case measure => simp [intOf]; omega
          · have hz := heven hpar
            have ht : ((y : Int) % 2 == 1) = false := by rw [beq_eq_false_iff_ne]; omega
            have HZ := Lib.hid hz
            clear hodd heven hz
            go_wp2
            go_round
            case rel => exact ⟨B + 1, by omega, by go_num, by rw [← HP'.out, HZ.out]; go_num⟩
            case measure => simp [intOf]; omega
        · have : B = 8 := by omega
          subst this
          rw [plain_end, HF.out]
          go_wp2
          go_round
          case rel => exact ⟨k + 1, by omega, by go_num, rfl⟩
          case measure => simp [intOf]; omega
    · have : k = s.size := by omega
      subst this
      have hfull : r = run 4294967295 (bs s) := by rw [hr]; congr 1; exact List.take_of_length_le (Nat.le_refl _)
      have HF := Lib.hid hfull
      clear hr hfull
      go_wp2
      go_ret
      refine ⟨?_, rfl⟩
      rw [sum, ← HF.out]
      go_num

/-- The four cells behind k rounds. -/
def row4 (v k : Nat) : List Value := ((le4 v).take k).map u8v ++ List.replicate (4 - k) (.int .u8 0)
theorem le4_get (v k : Nat) (hk : k < 4) : (le4 v)[k]'(by rw [le4_len]; exact hk) = UInt8.ofNat (v / 256 ^ k) := by
  match k, hk with
  | 0, _ => simp [le4]
  | 1, _ => rfl
  | 2, _ => rfl
  | 3, _ => rfl
theorem row4_set (v k : Nat) (hk : k < 4) : (row4 v k).set k (u8v (UInt8.ofNat (v / 256 ^ k))) = row4 v (k + 1) := by
  have hl : ((le4 v).take k).length = k := by rw [List.length_take, le4_len]; omega
  rw [row4, List.set_append_right _ _ (by rw [List.length_map, hl]; omega), List.length_map, hl, Nat.sub_self, row4, List.take_succ_eq_append_getElem (show k < (le4 v).length from hk), le4_get v k hk, List.map_append, List.append_assoc]
  congr 1
  obtain ⟨j, hj⟩ : ∃ j, 4 - k = j + 1 := ⟨3 - k, by omega⟩
  rw [hj, show 4 - (k + 1) = j from by omega, List.replicate_succ, List.set_cons_zero]
  rfl
theorem row4_get (v k : Nat) (hk : k < 4) : (row4 v k)[k]? = some (.int .u8 0) := by
  have hl : ((le4 v).take k).length = k := by rw [List.length_take, le4_len]; omega
  rw [row4, List.getElem?_append_right (by rw [List.length_map, hl]; omega), List.length_map, hl, Nat.sub_self]
  obtain ⟨j, hj⟩ : ∃ j, 4 - k = j + 1 := ⟨3 - k, by omega⟩
  rw [hj, List.replicate_succ]; rfl
theorem row4_end (v : Nat) : row4 v 4 = (le4 v).map u8v := by
  rw [row4, List.take_of_length_le (by rw [le4_len]; omega)]; simp

/-- The bytes in the cells are the sum's. -/
theorem row4_bytes (v : Nat) (wr : World) (B : Nat) (hrow : wr.heap[B]? = some (.cells (row4 v 4).toArray 136 (0, 0))) :
    (convert 91 9 (.slice (some ⟨B, 0, none⟩) 4 4)).run Tryd.prog wr = .ok (.string ⟨(le4 v).toArray⟩) wr := by
  exact run_convert_bytes_back (P := Tryd.prog) wr 91 9 5 ⟨B, 0, none⟩ 4 (le4 v) Tryd.underlying91 Tryd.underlying5 Tryd.underlying9 (fun j hj => by
    have e : (⟨B, 0, none⟩ : Addr).add j = ⟨B, j, none⟩ := by unfold Addr.add; split <;> simp_all
    rw [e, cell_of_row _ _ _ _ _ _ hrow, List.getElem?_toArray, row4_end, List.getElem?_map, List.getElem?_eq_getElem hj]
    rfl)

set_option maxHeartbeats 1000000 in
theorem sumBytes_any (s : ByteArray) (w : World) (hs : s.size ≤ 9223372036854775807) (hst : Steps w) :
    Calls Tryd.prog 58 #[.string s] w fun e w' => e = .returned (.string ⟨(le4 (sum (bs s))).toArray⟩) ∧ Below w.heap.size w w' := by
  have hlt := sum_lt (bs s)
  have H1 := Lib.hid (sum_any s w hs hst)
  clear hst hs
  obtain ⟨v, hv⟩ : ∃ v, v = sum (bs s) := ⟨_, rfl⟩
  rw [← hv] at hlt H1 ⊢
  clear hv
  go_enter Tryd.func58, Tryd.ntmps58
  go_wp2_with fail
  refine H1.out.mono ?_
  rintro e w' ⟨rfl, rfl⟩
  clear H1
  go_wp2
  go_loopw [5, 8] (fun _ i wr => ∃ k : Nat, k ≤ 4 ∧ i = .int .i64 k ∧ wr.heap[w.heap.size]? = some (.cells (row4 v k).toArray 136 (0, 0)) ∧ Below w.heap.size w wr) (fun _ i _ => 4 - (intOf i).toNat)
  case atStart =>
    refine ⟨0, by omega, rfl, ?_, (Below.refl _ _).alloc (Nat.le_refl _) _⟩
    rw [heap_alloc_new]
    rfl
  case round =>
    obtain ⟨k, hk, rfl, hrow, hbel⟩ := hrel
    by_cases hlt4 : k < 4
    · have hcell : wr.cell? ⟨w.heap.size, k, none⟩ = some (.int .u8 0) := by
        rw [cell_of_row _ _ _ _ _ _ hrow, List.getElem?_toArray, row4_get _ _ hlt4]
      have hfr : wr.frozen? ⟨w.heap.size, k, none⟩ = false := by simp [World.frozen?, hrow]
      have HR := Lib.hid hrow
      clear hrow
      go_wp2
      go_roundw
      case rel =>
        refine ⟨k + 1, by omega, by go_num, ?_, hbel.setCell (Nat.le_refl _) _⟩
        have hrow := HR.out
        rw [Oct.u8v_ofNat v (v : Int) k rfl, ← row4_set _ _ hlt4]
        simp [World.setCell, Array.getElem?_modify, hrow]
      case measure => simp [intOf]; omega
    · have : k = 4 := by omega
      subst this
      have hcv := row4_bytes v wr w.heap.size hrow
      clear hrow
      go_wp2
      go_ret
      exact ⟨rfl, hbel⟩

theorem pb_len8 (n : Int) : (Oct.pb n).length ≤ 8 := by
  unfold Oct.pb
  split
  · simp
  · have := Oct.wid7 n.natAbs (by omega)
    simp only [List.length_cons, Oct.be_length]; omega

/-- The frame of a body. -/
def wr (body : List UInt8) : List UInt8 := if 1048576 < body.length then [] else (Oct.pb body.length ++ body) ++ le4 (sum (Oct.pb body.length ++ body))

theorem wrap_big (s : ByteArray) (w : World) (hs : 1048576 < (s.size : Int)) :
    Calls Tryd.prog 31 #[.string s] w fun e w' => e = .returned (.string ⟨#[]⟩) ∧ w = w' := by
  go_enter Tryd.func31, Tryd.ntmps31
  go_wp2
  go_ret
  exact ⟨rfl, rfl⟩
theorem mk_bs (s : ByteArray) : (⟨(bs s).toArray⟩ : ByteArray) = s := rfl
theorem cat_mk (a b : List UInt8) : (⟨a.toArray⟩ : ByteArray) ++ ⟨b.toArray⟩ = ⟨(a ++ b).toArray⟩ := by
  apply ByteArray.ext; simp

theorem wrap_in (s : ByteArray) (w : World) (hs : (s.size : Int) ≤ 1048576) (hst : Steps w) (h0 : 0 < w.heap.size) :
    Calls Tryd.prog 31 #[.string s] w fun e w' => e = .returned (.string ⟨(wr (bs s)).toArray⟩) ∧ Below w.heap.size w w' := by
  obtain ⟨p, hp⟩ : ∃ p : ByteArray, p = ⟨(Oct.pb s.size).toArray⟩ := ⟨_, rfl⟩
  have hbp : bs p = Oct.pb s.size := by rw [hp]
  have hps : p.size ≤ 8 := by rw [← Oct.bs_length, hbp]; exact pb_len8 _
  have hcat : bs (p ++ s) = Oct.pb s.size ++ bs s := by rw [← hbp]; simp [bs]
  have hsz : (p ++ s).size = p.size + s.size := by simp
  obtain ⟨q, hq⟩ : ∃ q : ByteArray, q = ⟨(le4 (sum (bs (p ++ s)))).toArray⟩ := ⟨_, rfl⟩
  have hqs : q.size = 4 := by rw [hq]; rfl
  have hfin : (p ++ s) ++ q = ⟨(wr (bs s)).toArray⟩ := by
    rw [hq, hcat, ← mk_bs (p ++ s), hcat, cat_mk, wr, if_neg (by rw [Oct.bs_length]; omega), Oct.bs_length]
  have H1 : ∀ W : World, Calls Tryd.prog 53 #[.int .i64 s.size] W fun e w' => e = .returned (.string p) ∧ Below W.heap.size W w' := fun W => by rw [hp]; exact Oct.put_any _ W
  have H2 : ∀ W : World, Steps W → Calls Tryd.prog 58 #[.string (p ++ s)] W fun e w' => e = .returned (.string q) ∧ Below W.heap.size W w' := fun W h => by rw [hq]; exact sumBytes_any (p ++ s) W (by omega) h
  rw [← hfin]
  have K1 := Lib.hid H1
  have K2 := Lib.hid H2
  have KS := Lib.hid hst
  have KQ := Lib.hid hqs
  have hqs' : q.size ≤ 4 := by omega
  have hc1 : ¬ 9223372036854775807 < p.size + s.size := by omega
  have hc2 : ¬ 9223372036854775807 < (p ++ s).size + q.size := by omega
  have hc3 : ¬ 9223372036854775807 < p.size + s.size + q.size := by omega
  clear hp hbp hcat hq hqs hfin H1 H2 hst hsz
  go_enter Tryd.func31, Tryd.ntmps31
  go_wp2_with fail
  refine (K1.out _).mono ?_
  rintro e w1 ⟨rfl, b1⟩
  go_wp2_with fail
  refine (K2.out _ (KS.out.of b1 h0)).mono ?_
  rintro e w2 ⟨rfl, b2⟩
  go_wp2
  go_ret
  exact ⟨rfl, b1.trans (b2.mono b1.size)⟩

/-- frame.Wrap, whatever the body. -/
theorem wrap_any (s : ByteArray) (w : World) (hst : Steps w) (h0 : 0 < w.heap.size) :
    Calls Tryd.prog 31 #[.string s] w fun e w' => e = .returned (.string ⟨(wr (bs s)).toArray⟩) ∧ Below w.heap.size w w' := by
  by_cases hs : (s.size : Int) ≤ 1048576
  · exact wrap_in s w hs hst h0
  · refine (wrap_big s w (by omega)).mono fun e w' ⟨he, hw⟩ => ?_
    subst hw
    rw [wr, if_pos (by rw [Oct.bs_length]; omega)]
    exact ⟨he, Below.refl _ _⟩

end Go.Proofs.YtgbpofgmomglfaaDoor.Crc
