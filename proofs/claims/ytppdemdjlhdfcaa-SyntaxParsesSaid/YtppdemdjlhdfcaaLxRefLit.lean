/-
  The walks of the document's plain Place, fault, hex.
-/
import Derived.Test.YtppdemdjlhdfcaaLxScan
import Derived.BigQuiet
import Derived.Deep.QuietTactic
namespace Go.Proofs.Ytppdemdjlhdfcaa.Lx
open Go.RowKit
set_option maxRecDepth 100000

def hexI (c : Nat) : Int := match hexN c with | none => -1 | some h => (h : Int)
theorem hexI_ge (c : Nat) : -1 ≤ hexI c := by
  unfold hexI; split <;> omega
theorem hexI_lt (c : Nat) : hexI c < 16 := by
  unfold hexI
  split
  · omega
  · rename_i h; have := hexN_lt h; omega

theorem hex_any (c : Nat) (w : World) (hc : c < 256) :
    Calls Try.prog 52 #[.int .u8 c] w fun e w' => e = .returned (.int .i64 (hexI c)) ∧ w = w' := by
  by_cases h1 : 48 ≤ c ∧ c ≤ 57
  · have e : hexI c = (c : Int) - 48 := by unfold hexI hexN; rw [if_pos h1]; simp only; omega
    obtain ⟨a1, a2⟩ := h1
    have b1 : (48 : Int) ≤ c := by omega
    have b2 : (c : Int) ≤ 57 := by omega
    rw [e]
    clear e
    go_enter Try.func52, Try.ntmps52
    go_wp2
    go_ret
    exact ⟨rfl, rfl⟩
  · by_cases h2 : 97 ≤ c ∧ c ≤ 102
    · have e : hexI c = (c : Int) - 87 := by unfold hexI hexN; rw [if_neg h1, if_pos h2]; simp only; omega
      obtain ⟨a1, a2⟩ := h2
      have b1 : (97 : Int) ≤ c := by omega
      have b2 : (c : Int) ≤ 102 := by omega
      have b3 : (48 : Int) ≤ c := by omega
      have b4 : (57 : Int) < c := by omega
      rw [e]
      clear e h1
      go_enter Try.func52, Try.ntmps52
      go_wp2
      go_ret
      exact ⟨rfl, rfl⟩
    · have e : hexI c = -1 := by unfold hexI hexN; rw [if_neg h1, if_neg h2]
      rw [e]
      have hor : (c : Int) < 48 ∨ (57 : Int) < c ∧ (c : Int) < 97 ∨ (102 : Int) < c := by omega
      clear e h1 h2
      rcases hor with h | ⟨h, h'⟩ | h
      all_goals
        go_enter Try.func52, Try.ntmps52
        go_wp2
        go_ret
        exact ⟨rfl, rfl⟩

theorem plc_snoc (s : ByteArray) (k : Nat) (h : k < s.size) (l c : Nat) : plc ((bs s).take (k + 1)) l c =
    if s[k].toNat = 10 then ((plc ((bs s).take k) l c).1 + 1, 1) else ((plc ((bs s).take k) l c).1, (plc ((bs s).take k) l c).2 + 1) := by
  rw [List.take_succ_eq_append_getElem (by simpa using h), plc_append]
  show plc [s[k]] _ _ = _
  rw [plc, plc, plc]

set_option maxHeartbeats 1000000 in
theorem place_any (s : ByteArray) (n : Nat) (w : World) (hn : n ≤ s.size) (hs : s.size ≤ 1048576) :
    Calls Try.prog 30 #[.string s, .int .i64 n] w fun e w' => e = .returned (.tuple #[.int .i64 (plc ((bs s).take n) 1 1).1, .int .i64 (plc ((bs s).take n) 1 1).2]) ∧ w = w' := by
  obtain ⟨R, hR⟩ : ∃ R, R = plc ((bs s).take n) 1 1 := ⟨_, rfl⟩
  rw [← hR]
  have HR := Lib.hid hR
  clear hR
  go_enter Try.func30, Try.ntmps30
  go_wp2
  go_loop [6, 7, 8] (fun l c i => ∃ k : Nat, k ≤ n ∧ i = .int .i64 k ∧ l = .int .i64 (plc ((bs s).take k) 1 1).1 ∧ c = .int .i64 (plc ((bs s).take k) 1 1).2) (fun _ _ i => n - (intOf i).toNat)
  case atStart => exact ⟨0, by omega, rfl, rfl, rfl⟩
  case round =>
    obtain ⟨k, hk, rfl, rfl, rfl⟩ := hrel
    have hb := plc_bd ((bs s).take k) 1 1 (by omega)
    have hlk : ((bs s).take k).length ≤ k := by rw [List.length_take]; omega
    by_cases hkn : k < n
    · have hks : k < s.size := by omega
      have hst := plc_snoc s k hks 1 1
      obtain ⟨P, hP⟩ : ∃ P, P = plc ((bs s).take k) 1 1 := ⟨_, rfl⟩
      rw [← hP] at hst hb ⊢
      by_cases h10 : s[k].toNat = 10
      · have e1 : ((s[k].toNat : Int) == 10) = true := by rw [beq_iff_eq]; omega
        rw [if_pos h10] at hst
        have HS := Lib.hid hst
        clear hst hP h10
        go_wp2
        go_round
        case rel => exact ⟨k + 1, by omega, by go_num, by rw [HS.out]; go_num, by rw [HS.out]; rfl⟩
        case measure => simp [intOf]; omega
      · have e1 : ((s[k].toNat : Int) == 10) = false := by rw [beq_eq_false_iff_ne]; omega
        rw [if_neg h10] at hst
        have HS := Lib.hid hst
        clear hst hP h10
        go_wp2
        go_round
        case rel => exact ⟨k + 1, by omega, by go_num, by rw [HS.out], by rw [HS.out]; go_num⟩
        case measure => simp [intOf]; omega
    · obtain rfl : k = n := by omega
      rw [← HR.out] at hb ⊢
      clear HR
      go_wp2
      go_ret2
      exact ⟨rfl, rfl⟩

/-- The row of the plain Fault; of the plain Token. -/
def RfAt (W : World) (b : Nat) (l c e : Int) : Prop := W.heap[b]? = some (.cells #[.int .i64 l, .int .i64 c, .int .i64 e] 35 (0, 0))
theorem fault_any (s : ByteArray) (n k : Nat) (w : World) (hn : n ≤ s.size) (hs : s.size ≤ 1048576) :
    Calls Try.prog 34 #[.string s, .int .i64 n, .int .i64 k] w fun e w' => e = .returned (fltV ((plc ((bs s).take n) 1 1).1, (plc ((bs s).take n) 1 1).2, k)) ∧ Below w.heap.size w w' := by
  have K := fun W => place_any s n W hn hs
  obtain ⟨R, hR⟩ : ∃ R, R = plc ((bs s).take n) 1 1 := ⟨_, rfl⟩
  rw [← hR] at K ⊢
  have K1 := Lib.hid K
  clear K hR
  go_enter Try.func34, Try.ntmps34
  go_wp2_with fail
  refine (K1.out _).mono ?_
  rintro e w1 ⟨rfl, rfl⟩
  go_wp2
  have hh : RfAt (w.alloc (.cells #[.int .i64 R.1, .int .i64 R.2, .int .i64 k] 35)) w.heap.size R.1 R.2 k := heap_alloc_new w _
  exact bodyPost_ret (results_cell_row rfl _ _ w.heap.size 35 _ (0, 0) _ rfl hh Try.underlying35 rfl rfl) rfl ⟨rfl, (Below.refl _ _).alloc (Nat.le_refl _) _⟩

end Go.Proofs.Ytppdemdjlhdfcaa.Lx
