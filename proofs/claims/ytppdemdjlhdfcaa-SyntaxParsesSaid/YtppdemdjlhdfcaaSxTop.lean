/-
  Whether a grammar can be a text.
-/
import Derived.Test.YtppdemdjlhdfcaaSxSame2
import Derived.Test.YtppdemdjlhdfcaaLxGood
namespace Go.Proofs.Ytppdemdjlhdfcaa.Sx
open Go.RowKit
open Lx (bs)
set_option maxRecDepth 100000

/-- Is a node proper, if its kids are? -/
def topB (k : Nat) (t : List UInt8) (n : Nat) : Bool :=
  if k = 1 then Lx.goodB t && decide (n = 0)
  else if k = 2 then decide (t ≠ []) && decide (t.length ≤ 16) && decide (n = 0)
  else if k = 3 then decide (t = []) && decide (n ≠ 1)
  else if k = 4 then decide (t = []) && decide (1 < n)
  else if k = 5 ∨ k = 6 ∨ k = 7 then decide (t = []) && decide (n = 1) else false
mutual
def impT : Tree → Bool
  | .node k t l => !topB k t l.length || impL l
def impL : List Tree → Bool
  | [] => false
  | a :: l => impT a || impL l
end
def impR (r : Rul) : Bool := !Lx.goodB r.1 || impT r.2
def impRs : List Rul → Bool
  | [] => false
  | a :: l => impR a || impRs l
theorem impL_step (l : List Tree) (k : Nat) (h : k < l.length) : impL (l.drop k) = (impT l[k] || impL (l.drop (k + 1))) := by
  rw [List.drop_eq_getElem_cons h, impL]
theorem impL_end (l : List Tree) (k : Nat) (h : l.length ≤ k) : impL (l.drop k) = false := by
  rw [List.drop_eq_nil_of_le h, impL]
theorem impRs_step (l : List Rul) (k : Nat) (h : k < l.length) : impRs (l.drop k) = (impR l[k] || impRs (l.drop (k + 1))) := by
  rw [List.drop_eq_getElem_cons h, impRs]
theorem impRs_end (l : List Rul) (k : Nat) (h : l.length ≤ k) : impRs (l.drop k) = false := by
  rw [List.drop_eq_nil_of_le h, impRs]
/-- An index is told, from 0 on just where there is one. -/
def Finds (b : Bool) (W : World) (e : Ending) (w' : World) : Prop := ∃ i : Int, e = .returned (.int .i64 i) ∧ decide (0 ≤ i) = b ∧ Below W.heap.size W w'

theorem box_node (W : World) (x y z : Value) : Below W.heap.size W (W.alloc (.cells #[x, y, z] 44)) := (Below.refl _ _).alloc (Nat.le_refl _) _
set_option maxHeartbeats 4000000 in
theorem top_any (k : Nat) (t : List UInt8) (A : Option Addr) (n cap : Nat) (W : World) (ht : t.length ≤ 1048576) (hn : n ≤ 4611686018427387904) :
    Calls Try.prog 54 #[.agg #[.int .i64 k, .string (Lx.mk t), .slice A n cap]] W (Asks (topB k t n) W) := by
  obtain ⟨s, hs⟩ : ∃ s, s = Lx.mk t := ⟨_, rfl⟩
  have hbs : bs s = t := by rw [hs]; rfl
  have hsz : s.size = t.length := by rw [hs]; rfl
  have hem : s.toList.isEmpty = decide (t = []) := by
    rw [hs, Lib.toList_data, Bool.eq_iff_iff]; simp [Lx.mk]
  rw [← hs]
  have HB := Lib.hid (box_node W (.int .i64 k) (.string s) (.slice A n cap))
  have KG := fun w => Lx.good_any s w (by omega)
  rw [hbs] at KG
  have HG := Lib.hid KG
  clear KG hs hbs
  have q1 : ((n : Int) == 0) = decide (n = 0) := by rw [Bool.eq_iff_iff]; simp
  have q2 : ((n : Int) != 1) = decide (n ≠ 1) := by rw [Bool.eq_iff_iff]; simp; omega
  have q3 : decide ((1 : Int) < (n : Int)) = decide (1 < n) := by rw [Bool.eq_iff_iff]; simp; omega
  have q4 : ((n : Int) == 1) = decide (n = 1) := by rw [Bool.eq_iff_iff]; simp; omega
  have Q1 := Lib.hid q1
  have Q2 := Lib.hid q2
  have Q3 := Lib.hid q3
  have Q4 := Lib.hid q4
  have HEM := Lib.hid hem
  have HSZ := Lib.hid hsz
  clear q1 q2 q3 q4 hem hsz
  by_cases h1 : k = 1
  · subst h1
    rw [show topB 1 t n = (Lx.goodB t && decide (n = 0)) from rfl]
    cases hg : Lx.goodB t
    · rw [hg] at HG
      clear hg
      go_enter Try.func54, Try.ntmps54
      go_wp2_with fail
      refine (HG.out _).mono ?_
      rintro e w1 ⟨rfl, rfl⟩
      go_wp2
      go_ret
      exact ⟨rfl, HB.out⟩
    · rw [hg] at HG
      clear hg
      go_enter Try.func54, Try.ntmps54
      go_wp2_with fail
      refine (HG.out _).mono ?_
      rintro e w1 ⟨rfl, rfl⟩
      go_wp2
      go_ret
      exact ⟨by rw [Q1.out]; rfl, HB.out⟩
  by_cases h2 : k = 2
  · subst h2
    rw [show topB 2 t n = (decide (t ≠ []) && decide (t.length ≤ 16) && decide (n = 0)) from rfl]
    clear h1
    by_cases ht : t = []
    · have he : s.toList.isEmpty = true := by rw [HEM.out, decide_eq_true ht]
      rw [show decide (t ≠ []) = false from decide_eq_false (fun h => h ht)]
      clear ht
      go_enter Try.func54, Try.ntmps54
      go_wp2
      go_ret
      exact ⟨rfl, HB.out⟩
    · have he : s.toList.isEmpty = false := by rw [HEM.out, decide_eq_false ht]
      rw [decide_eq_true ht]
      clear ht
      by_cases h16 : t.length ≤ 16
      · have hl : (s.size : Int) ≤ 16 := by rw [HSZ.out]; omega
        rw [decide_eq_true h16]
        clear h16
        go_enter Try.func54, Try.ntmps54
        go_wp2
        go_ret
        exact ⟨by rw [Q1.out]; rfl, HB.out⟩
      · have hl : ¬ (s.size : Int) ≤ 16 := by rw [HSZ.out]; omega
        rw [decide_eq_false h16]
        clear h16
        go_enter Try.func54, Try.ntmps54
        go_wp2
        go_ret
        exact ⟨rfl, HB.out⟩
  by_cases h3 : k = 3
  · subst h3
    rw [show topB 3 t n = (decide (t = []) && decide (n ≠ 1)) from rfl]
    clear h1 h2
    by_cases ht : t = []
    · have he : s.toList.isEmpty = true := by rw [HEM.out, decide_eq_true ht]
      rw [decide_eq_true ht]
      clear ht
      go_enter Try.func54, Try.ntmps54
      go_wp2
      go_ret
      exact ⟨by rw [Q2.out]; rfl, HB.out⟩
    · have he : s.toList.isEmpty = false := by rw [HEM.out, decide_eq_false ht]
      rw [decide_eq_false ht]
      clear ht
      go_enter Try.func54, Try.ntmps54
      go_wp2
      go_ret
      exact ⟨rfl, HB.out⟩
  by_cases h4 : k = 4
  · subst h4
    rw [show topB 4 t n = (decide (t = []) && decide (1 < n)) from rfl]
    clear h1 h2 h3
    by_cases ht : t = []
    · have he : s.toList.isEmpty = true := by rw [HEM.out, decide_eq_true ht]
      rw [decide_eq_true ht]
      clear ht
      go_enter Try.func54, Try.ntmps54
      go_wp2
      go_ret
      exact ⟨by rw [Q3.out]; rfl, HB.out⟩
    · have he : s.toList.isEmpty = false := by rw [HEM.out, decide_eq_false ht]
      rw [decide_eq_false ht]
      clear ht
      go_enter Try.func54, Try.ntmps54
      go_wp2
      go_ret
      exact ⟨rfl, HB.out⟩
  by_cases h5 : k = 5
  · subst h5
    rw [show topB 5 t n = (decide (t = []) && decide (n = 1)) from rfl]
    clear h1 h2 h3 h4
    by_cases ht : t = []
    · have he : s.toList.isEmpty = true := by rw [HEM.out, decide_eq_true ht]
      rw [decide_eq_true ht]
      clear ht
      go_enter Try.func54, Try.ntmps54
      go_wp2
      go_ret
      exact ⟨by rw [Q4.out]; rfl, HB.out⟩
    · have he : s.toList.isEmpty = false := by rw [HEM.out, decide_eq_false ht]
      rw [decide_eq_false ht]
      clear ht
      go_enter Try.func54, Try.ntmps54
      go_wp2
      go_ret
      exact ⟨rfl, HB.out⟩
  by_cases h6 : k = 6
  · subst h6
    rw [show topB 6 t n = (decide (t = []) && decide (n = 1)) from rfl]
    clear h1 h2 h3 h4 h5
    by_cases ht : t = []
    · have he : s.toList.isEmpty = true := by rw [HEM.out, decide_eq_true ht]
      rw [decide_eq_true ht]
      clear ht
      go_enter Try.func54, Try.ntmps54
      go_wp2
      go_ret
      exact ⟨by rw [Q4.out]; rfl, HB.out⟩
    · have he : s.toList.isEmpty = false := by rw [HEM.out, decide_eq_false ht]
      rw [decide_eq_false ht]
      clear ht
      go_enter Try.func54, Try.ntmps54
      go_wp2
      go_ret
      exact ⟨rfl, HB.out⟩
  by_cases h7 : k = 7
  · subst h7
    rw [show topB 7 t n = (decide (t = []) && decide (n = 1)) from rfl]
    clear h1 h2 h3 h4 h5 h6
    by_cases ht : t = []
    · have he : s.toList.isEmpty = true := by rw [HEM.out, decide_eq_true ht]
      rw [decide_eq_true ht]
      clear ht
      go_enter Try.func54, Try.ntmps54
      go_wp2
      go_ret
      exact ⟨by rw [Q4.out]; rfl, HB.out⟩
    · have he : s.toList.isEmpty = false := by rw [HEM.out, decide_eq_false ht]
      rw [decide_eq_false ht]
      clear ht
      go_enter Try.func54, Try.ntmps54
      go_wp2
      go_ret
      exact ⟨rfl, HB.out⟩
  rw [show topB k t n = false by unfold topB; rw [if_neg h1, if_neg h2, if_neg h3, if_neg h4, if_neg (by omega)]]
  have n1 : ((k : Int) == 1) = false := by rw [beq_eq_false_iff_ne]; omega
  have n2 : ((k : Int) == 2) = false := by rw [beq_eq_false_iff_ne]; omega
  have n3 : ((k : Int) == 3) = false := by rw [beq_eq_false_iff_ne]; omega
  have n4 : ((k : Int) == 4) = false := by rw [beq_eq_false_iff_ne]; omega
  have n5 : ((k : Int) == 5) = false := by rw [beq_eq_false_iff_ne]; omega
  have n6 : ((k : Int) == 6) = false := by rw [beq_eq_false_iff_ne]; omega
  have n7 : ((k : Int) == 7) = false := by rw [beq_eq_false_iff_ne]; omega
  clear h1 h2 h3 h4 h5 h6 h7
  go_enter Try.func54, Try.ntmps54
  go_wp2
  go_ret
  exact ⟨rfl, HB.out⟩
end Go.Proofs.Ytppdemdjlhdfcaa.Sx
