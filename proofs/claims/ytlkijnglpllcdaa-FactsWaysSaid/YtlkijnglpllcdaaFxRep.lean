/-
  The walk of slices.Repeat at a row of one number.
-/
import Derived.Test.YtlkijnglpllcdaaFxRow
import Derived.Laws.CopyOwn
import Derived.Deep.RegionLaw
namespace Go.Proofs.Ytlkijnglpllcdaa.Fx
open Go.RowKit
set_option maxRecDepth 100000
set_option linter.unusedSimpArgs false

theorem iinfo : (Try.prog.info? 3).map (fun i => (i.zero, i.size, i.bytes)) = some (some (.int .i64 0), 1, 8) := by kernel_rfl
theorem isize : (Try.prog.info? 3).map (·.size) = some 1 := by kernel_rfl
/-- So many that have come, and those to come. -/
def repC (x : Int) (m n : Nat) : List Value := List.replicate m (.int .i64 x) ++ List.replicate (n - m) (.int .i64 0)
theorem repC_len (x : Int) {m n : Nat} (h : m ≤ n) : (repC x m n).length = n := by simp [repC]; omega
theorem repC_splice (x : Int) {m c n : Nat} (h : m + c ≤ n) : splice (repC x m n) m (List.replicate c (.int .i64 x)) = repC x (m + c) n := by
  unfold splice repC
  rw [List.take_left' (by simp), List.drop_append, List.length_replicate, List.drop_eq_nil_of_le (by simp), List.nil_append, List.length_replicate, List.drop_replicate, ← List.append_assoc, List.replicate_append_replicate]
  congr 2
  omega
theorem repC_at (x : Int) {m n j : Nat} (h : j < m) : (repC x m n)[j]? = some (.int .i64 x) := by
  unfold repC
  rw [List.getElem?_append_left (by simpa using h), List.getElem?_replicate, if_pos h]
theorem repC_one (x : Int) (n : Nat) : splice (List.replicate n (Value.int .i64 0)) 0 [.int .i64 x] = repC x 1 n := by
  unfold splice repC
  simp

/-- A row with no room left, whole. -/
theorem own_full {w : World} {base g n : Nat} {e : TypeId} {xs : List Value} (h : w.ownsRow base e 1 (.slice (some ⟨g, 0, none⟩) n n) n xs) : w.heap[g]? = some (.cells xs.toArray e (0, 0)) := by
  rcases h.2 with ⟨h1, _⟩ | ⟨g2, cp, cur, h1, _, h3, h4, _, h5, h6⟩
  · injection h1 with h1; cases h1
  · injection h1 with e1 _ e3
    injection e1 with e1
    injection e1 with e1
    subst e1
    subst e3
    have : cur.toList = xs := by rw [← h6]; exact (List.take_of_length_le (by simp; omega)).symm
    rw [h3, ← this]
theorem made_ints (n : Nat) : (madeCells (Value.int .i64 0).cells (n * 1)).toList = List.replicate n (Value.int .i64 0) := by
  rw [Nat.mul_one]; exact toList_madeCells_one _ _
set_option maxHeartbeats 4000000 in
theorem repeat_any (x : Int) (b cap : Nat) (W : World) (hb : W.cell? ⟨b, 0, none⟩ = some (.int .i64 x)) (hbl : b < W.heap.size) (n : Nat) (h1 : 1 ≤ n) (hn : n ≤ 1048576) :
    Calls Try.prog 23 #[.slice (some ⟨b, 0, none⟩) 1 cap, .int .i64 n] W fun e w' => ∃ g, e = .returned (.slice (some ⟨g, 0, none⟩) n n) ∧ W.heap.size ≤ g ∧ w'.heap[g]? = some (.cells (List.replicate n (Value.int .i64 x)).toArray 3 (0, 0)) ∧ Below W.heap.size W w' := by
  have KM : ∀ w, Calls Try.prog 45 #[.int .u64 1, .int .u64 (n : Int)] w fun e w' => e = .returned (.tuple #[.int .u64 0, .int .u64 (n : Int)]) ∧ w = w' := fun w => by
    have := Try.bits_Mul 1 n (by decide) (by omega) w
    rw [show 1 * n / 18446744073709551616 = 0 by omega, show 1 * n % 18446744073709551616 = n by omega] at this
    exact this.mono fun e w' h => ⟨h.1, h.2.symm⟩
  have HKM := Lib.hid KM
  obtain ⟨i0, hi0, hz0, hz1, hz2⟩ := info_parts iinfo
  have hiu : i0.bytes * n ≤ 281474976710656 := by rw [hz2]; omega
  have HIU := Lib.hid hiu
  have HMX := Lib.hid (show n ≤ maxLen by unfold maxLen; omega)
  have HMIN := Lib.hid (show ([Value.int .i64 x] : List Value).length = Nat.min 1 n from (Nat.min_eq_left h1).symm)
  have HBC := Lib.hid (fun w2 (h : W.grownBy w2 none) => (show ∀ j v, ([Value.int .i64 x] : List Value)[j]? = some v → w2.cell? ((⟨b, 0, none⟩ : Addr).add j) = some v from fun j v hj => by
    cases j with
    | zero => rw [Gn.add_row, Gn.cell_same (h.block b hbl (by simp)), hb]; simpa using hj
    | succ j => simp at hj))
  clear KM hiu
  go_enter Try.func23, Try.ntmps23
  go_wp2_with fail
  refine (HKM.out _).mono ?_
  rintro e w1 ⟨rfl, rfl⟩
  go_wp2_with (first | (at_make; refine wpList_make_full _ rfl _ _ 22 rfl W.heap.size 3 i0 (.int .i64 0) 1 Try.underlying22 hi0 hz0 hz1 .i64 .i64 _ _ n rfl rfl rfl rfl HIU.out HMX.out (Nat.le_refl _) ?_; intro w2 hown2 hgrow2; rw [made_ints] at hown2; have HG2 := Lib.hid (own_full hown2); have HB2 := Lib.hid (show Below W.heap.size W w2 from (Below.refl _ _).grown hgrow2 (Nat.le_refl _) (fun k e => (by cases e))); have HC2 := Lib.hid (HBC.out w2 hgrow2); clear hown2 hgrow2) | (with_reducible refine wpList_copy_splice rfl (.tmp 31) (.tmp 32) 22 22 rfl 3 Try.underlying22 isize (some ⟨W.heap.size, 0, none⟩) (some ⟨b, 0, none⟩) n n 1 cap rfl rfl W.heap.size 0 (List.replicate n (.int .i64 0)) 3 HG2.out [.int .i64 x] HMIN.out (fun _ => ⟨rfl, _, rfl, HC2.out⟩) (by simp; omega) (by simp [Value.oneCell']) W.heap.size W HB2.out (Nat.le_refl _) ?_; intro w3 hg3 hb3; have HB3 := Lib.hid hb3; clear hb3))
  have HG3 := Lib.hid (show w3.heap[W.heap.size]? = some (.cells (repC x 1 n).toArray 3 (0, 0)) by rw [← repC_one x n]; exact hg3.out)
  clear hg3
  go_loopw [8] (fun v wr => ∃ m : Nat, 1 ≤ m ∧ m ≤ n ∧ v = .int .i64 m ∧ wr.heap[W.heap.size]? = some (.cells (repC x m n).toArray 3 (0, 0)) ∧ Below W.heap.size W wr) (fun v _ => n - (intOf v).toNat)
  case atStart => exact ⟨1, Nat.le_refl _, h1, rfl, HG3.out, HB3.out⟩
  case round =>
    obtain ⟨m, hm1, hm2, rfl, hg, hbl2⟩ := hrel
    have HG := Lib.hid hg
    have HB := Lib.hid hbl2
    clear hg hbl2
    by_cases hlt : m < n
    · have hnm : ¬ n = m := by omega
      have i0 : (0 : Int) ≤ (m : Int) := by omega
      have i1 : (m : Int) < (n : Int) := by omega
      have i2 : (m : Int) ≤ (n : Int) := by omega
      obtain ⟨c, hc, hc1, hc2⟩ : ∃ c, c = Nat.min m (n - m) ∧ 1 ≤ c ∧ m + c ≤ n := ⟨_, rfl, by
        show 1 ≤ min m (n - m)
        omega, by
        show m + min m (n - m) ≤ n
        omega⟩
      have HC := Lib.hid (show (List.replicate c (Value.int .i64 x)).length = Nat.min m (n - m) by rw [List.length_replicate, hc])
      have HS := Lib.hid (show ∀ j v, (List.replicate c (Value.int .i64 x))[j]? = some v → wr.drew.cell? ((⟨W.heap.size, 0, none⟩ : Addr).add j) = some v from fun j v hj => by
        rw [Gn.add_row]
        have hj2 : j < c ∧ Value.int .i64 x = v := by
          rw [List.getElem?_replicate] at hj
          split at hj
          · rename_i h; exact ⟨h, by injection hj⟩
          · cases hj
        have hcm : c ≤ m := by rw [hc]; exact Nat.min_le_left _ _
        have := cell_of_row wr.drew W.heap.size j _ _ (0, 0) HG.out
        rw [this, ← hj2.2]
        simpa using repC_at x (show j < m by omega))
      have hw1 : IntKind.i64.wrap ((m : Int) + (c : Int)) = (m : Int) + (c : Int) := IntWalk.i64_in _ (by omega)
      clear hc
      go_wp2_with fail
      go_region_law (refine step_copy_splice rfl (.tmp 41) (.tmp 44) 22 22 rfl 3 Try.underlying22 isize (some ⟨W.heap.size, m, none⟩) (some ⟨W.heap.size, 0, none⟩) (n - m) (n - m) m n (by simp [Act.eval, Act.put]) (by simp [Act.eval, Act.put]) W.heap.size m (repC x m n) 3 HG.out (List.replicate c (.int .i64 x)) HC.out (fun _ => ⟨rfl, _, rfl, HS.out⟩) (by rw [repC_len x hm2]; simp; omega) (by simp [Value.oneCell']) W.heap.size W (Gn.below_drew HB.out) (Nat.le_refl _) ?_; intro w4 hg4 hb4)
      all_goals
        have HB4 := Lib.hid hb4
        clear hb4
        simp only [List.length_replicate, hw1, Act.put, List.setIfInBounds_toArray, List.set_cons_zero, List.set_cons_succ]
        go_wp2
        rename_i hdd
        cases hdd
        simp only [List.set_cons_zero, List.set_cons_succ]
        refine ⟨⟨.int .i64 ((m : Int) + (c : Int)), ⟨m + c, by omega, hc2, by simp, by rw [← repC_splice x hc2]; exact hg4.out, HB4.out⟩, ?_⟩, ?_⟩
        · exact ⟨_, _, _, _, _, _, _, _, _, _, _, _, _, rfl⟩
        · simp [intOf]; omega
    · obtain rfl : m = n := by omega
      have HF := Lib.hid (show wr.heap[W.heap.size]? = some (.cells (List.replicate m (Value.int .i64 x)).toArray 3 (0, 0)) by have := HG.out; unfold repC at this; rwa [Nat.sub_self, List.replicate_zero, List.append_nil] at this)
      go_wp2
      go_ret
      exact ⟨_, rfl, Nat.le_refl _, HF.out, HB.out⟩
end Go.Proofs.Ytlkijnglpllcdaa.Fx
