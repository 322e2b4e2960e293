/-
  The walk of slices.IsSortedFunc by the productions' left sides.
-/
import Derived.Test.YtdknlifpoihnmaaFxIdx
namespace Go.Proofs.Ytdknlifpoihnmaa.Fx
open Go.RowKit
open Gn (Asks)
set_option maxRecDepth 100000

/-- By rising left sides. -/
def sortedB : List Prd → Bool
  | a :: b :: r => decide (a.left ≤ b.left) && sortedB (b :: r)
  | _ => true
theorem sorted_step (l : List Prd) (k : Nat) (h : k + 1 < l.length) : sortedB (l.drop k) = (decide (l[k].left ≤ l[k + 1].left) && sortedB (l.drop (k + 1))) := by
  rw [List.drop_eq_getElem_cons (show k < l.length by omega), List.drop_eq_getElem_cons h, sortedB]
theorem sorted_last (l : List Prd) (k : Nat) (h : l.length ≤ k + 1) : sortedB (l.drop k) = true := by
  rcases Nat.lt_or_ge k l.length with h1 | h1
  · rw [List.drop_eq_getElem_cons h1, List.drop_eq_nil_of_le h, sortedB]
    simp
  · rw [List.drop_eq_nil_of_le h1, sortedB]
    simp
theorem sorted_tail (l : List Prd) (k : Nat) (h : sortedB (l.drop (k + 1)) = false) : sortedB (l.drop k) = false := by
  rcases Nat.lt_or_ge (k + 1) l.length with h1 | h1
  · rw [sorted_step l k h1, h]; simp
  · rw [sorted_last l (k + 1) (by omega)] at h; cases h
theorem sorted_all (l : List Prd) : ∀ k, sortedB (l.drop k) = false → sortedB l = false
  | 0, h => by simpa using h
  | k + 1, h => sorted_all l k (sorted_tail l k h)

set_option maxHeartbeats 4000000 in
theorem sorted_any (l : List Prd) (P : Nat → Prop) (W : World) (v : Value) (h : PrdsAt P W l v) (hn : l.length ≤ 1099511627776) :
    Calls Try.prog 59 #[v, .func (.func 60) #[] #[]] W (Asks (sortedB l) W) := by
  obtain ⟨A, cap, r, f, rfl, hcap, h3, h4⟩ := h
  obtain ⟨R, hR⟩ : ∃ R, R = sortedB l := ⟨_, rfl⟩
  rw [← hR]
  have HR := Lib.hid hR
  obtain ⟨n, hn1⟩ : ∃ n, n = l.length := ⟨_, rfl⟩
  rw [← hn1] at hcap h3 hn ⊢
  have HN1 := Lib.hid hn1
  have H3 := Lib.hid h3
  have H4 := Lib.hid h4
  have HB := Lib.hid (Below.refl W.heap.size W)
  clear hR hn1 h3 h4
  have KB := Lib.hid (fun x y u v W => byLeft_any x y u v W)
  go_enter Try.func59, Try.ntmps59
  go_wp2
  go_loopw [5] (fun i wr => ∃ k : Nat, k ≤ n ∧ i = .int .i64 ((k : Int) - 1) ∧ Below W.heap.size W wr ∧ sortedB (l.drop (k - 1)) = true) (fun i _ => (intOf i + 1).toNat)
  case atStart => exact ⟨n, Nat.le_refl _, rfl, HB.out, sorted_last l _ (by have := HN1.out; omega)⟩
  case round =>
    obtain ⟨k, hk, rfl, hbel, hE⟩ := hrel
    have HE := Lib.hid hE
    have HBL := Lib.hid hbel
    clear hE hbel
    by_cases hlt : 1 < k
    · obtain ⟨j, rfl⟩ : ∃ j, k = j + 2 := ⟨k - 2, by omega⟩
      have h1 : j + 1 < l.length := by have := HN1.out; omega
      have h2 : j < l.length := by have := HN1.out; omega
      obtain ⟨eA, hr, _⟩ := H3.out (by omega)
      subst eA
      obtain ⟨x0, x1, xi⟩ := H4.out (j + 1) h1
      obtain ⟨y0, y1, yi⟩ := H4.out j h2
      obtain ⟨Ax, cx, ex⟩ := xi.form
      obtain ⟨Ay, cy, ey⟩ := yi.form
      have X0 := (HBL.out.cell (p := ⟨r, (j + 1) * 2, none⟩) hr).trans x0
      have X1 := (HBL.out.cell (p := ⟨r, (j + 1) * 2 + 1, none⟩) hr).trans x1
      have Y0 := (HBL.out.cell (p := ⟨r, j * 2, none⟩) hr).trans y0
      have Y1 := (HBL.out.cell (p := ⟨r, j * 2 + 1, none⟩) hr).trans y1
      rw [ex] at X1
      rw [ey] at Y1
      have hst := sorted_step l j h1
      have hE := HE.out
      rw [show j + 2 - 1 = j + 1 by omega] at hE
      rw [hE, Bool.and_true] at hst
      obtain ⟨a, ha⟩ : ∃ a, a = l[j + 1].left := ⟨_, rfl⟩
      obtain ⟨b, hb⟩ : ∃ b, b = l[j].left := ⟨_, rfl⟩
      rw [← ha] at X0 hst
      rw [← hb] at Y0 hst
      generalize l[j + 1].right.length = mx at X1
      generalize l[j].right.length = my at Y1
      have HST := Lib.hid hst
      have HRL := Lib.hid (Nat.lt_of_lt_of_le hr HBL.out.size)
      have HSA := Lib.hid (sorted_all l j)
      clear ha hb hst hE ex ey x0 x1 y0 y1 xi yi
      have s1 : ((j + 2 : Nat) : Int) - 1 = (j : Int) + 1 := by omega
      rw [s1]
      have i0 : (0 : Int) ≤ (j : Int) + 1 := by omega
      have i1 : (j : Int) + 1 < (n : Int) := by omega
      have i2 : ((j : Int) + 1).toNat = j + 1 := by omega
      have i4 : (0 : Int) ≤ (j : Int) := by omega
      have i5 : (j : Int) < (n : Int) := by omega
      have i6 : IntKind.i64.wrap ((j : Int) + 1 - 1) = (j : Int) := by rw [show (j : Int) + 1 - 1 = (j : Int) by omega]; exact IntWalk.i64_in _ (by omega)
      have i7 : IntKind.i64.wrap (j : Int) = (j : Int) := IntWalk.i64_in _ (by omega)
      clear s1
      obtain ⟨ci, hci⟩ : ∃ ci, ci = Lib.compareInt a b := ⟨_, rfl⟩
      have KB2 := fun u v W => KB.out a b u v W
      rw [← hci] at KB2
      have hc2 : (a < b ∧ ci < 0) ∨ (b ≤ a ∧ 0 ≤ ci) := by
        rw [hci, Lib.compareInt]
        by_cases h : a < b
        · rw [if_pos h]; exact .inl ⟨h, by decide⟩
        · rw [if_neg h]
          refine .inr ⟨by omega, ?_⟩
          split <;> decide
      have KB2 := Lib.hid KB2
      clear hci
      rcases hc2 with ⟨hab, hcn⟩ | ⟨hab, hcn⟩
      · have HF := Lib.hid (show R = false by rw [HR.out]; exact HSA.out (by rw [HST.out, decide_eq_false (by omega)]))
        clear hab
        go_wp2_with fail
        go_region_held3 (fun w' => w'.cell? ⟨r, (j + 1) * 2, none⟩ = some (.int .i64 a) ∧ w'.cell? ⟨r, (j + 1) * 2 + 1, none⟩ = some (.slice Ax mx cx) ∧ w'.cell? ⟨r, j * 2, none⟩ = some (.int .i64 b) ∧ w'.cell? ⟨r, j * 2 + 1, none⟩ = some (.slice Ay my cy)) (first | exact ⟨X0, X1, Y0, Y1⟩ | exact ⟨(hb3.cell (p := ⟨r, (j + 1) * 2, none⟩) HRL.out).trans X0, (hb3.cell (p := ⟨r, (j + 1) * 2 + 1, none⟩) HRL.out).trans X1, (hb3.cell (p := ⟨r, j * 2, none⟩) HRL.out).trans Y0, (hb3.cell (p := ⟨r, j * 2 + 1, none⟩) HRL.out).trans Y1⟩) (first | (go_at_call 60; refine (KB2.out _ _ _).mono ?_; rintro e w3 ⟨rfl, hb3⟩))
        all_goals
          have HB3 := Lib.hid (HBL.out.trans ((Gn.below_from hb3 rfl rfl rfl rfl : Below wr.heap.size wr w3).mono HBL.out.size))
          clear hb3
          go_wp2
          go_ret
          exact ⟨by rw [HF.out]; rfl, HB3.out⟩
      · have HT := Lib.hid (show sortedB (l.drop j) = true by rw [HST.out, decide_eq_true hab])
        have hcn2 : ¬ ci < 0 := by omega
        clear hab
        go_wp2_with fail
        go_region_held3 (fun w' => w'.cell? ⟨r, (j + 1) * 2, none⟩ = some (.int .i64 a) ∧ w'.cell? ⟨r, (j + 1) * 2 + 1, none⟩ = some (.slice Ax mx cx) ∧ w'.cell? ⟨r, j * 2, none⟩ = some (.int .i64 b) ∧ w'.cell? ⟨r, j * 2 + 1, none⟩ = some (.slice Ay my cy)) (first | exact ⟨X0, X1, Y0, Y1⟩ | exact ⟨(hb3.cell (p := ⟨r, (j + 1) * 2, none⟩) HRL.out).trans X0, (hb3.cell (p := ⟨r, (j + 1) * 2 + 1, none⟩) HRL.out).trans X1, (hb3.cell (p := ⟨r, j * 2, none⟩) HRL.out).trans Y0, (hb3.cell (p := ⟨r, j * 2 + 1, none⟩) HRL.out).trans Y1⟩) (first | (go_at_call 60; refine (KB2.out _ _ _).mono ?_; rintro e w3 ⟨rfl, hb3⟩))
        all_goals
          have HB3 := Lib.hid (HBL.out.trans ((Gn.below_from hb3 rfl rfl rfl rfl : Below wr.heap.size wr w3).mono HBL.out.size))
          clear hb3
          go_wp2
          go_roundw
          case rel => exact ⟨j + 1, by omega, by simp, HB3.out, HT.out⟩
          case measure => simp [intOf]; omega
    · have hk1 : ¬ (0 : Int) < (k : Int) - 1 := by omega
      have HT := Lib.hid (show R = true by rw [HR.out, ← HE.out, show k - 1 = 0 by omega]; rfl)
      go_wp2
      go_ret
      exact ⟨by rw [HT.out]; rfl, HBL.out⟩
end Go.Proofs.Ytdknlifpoihnmaa.Fx
