/-
  Layer 18: what a roll must be: closures of holds, has, holdsClass, holds.
-/
import Derived.Test.YtnmhgjoofgmcgaaGreatRlMh2
import Derived.Test.YtnmhgjoofgmcgaaGreatRlAny
import Derived.Test.YtnmhgjoofgmcgaaGreatRlTeach
namespace Go.Proofs.YtnmhgjoofgmcgaaGreat.Rl
open Go.RowKit
open Fx (StrsAt)
open Lx (bs)
set_option maxRecDepth 100000
set_option linter.unusedSimpArgs false
set_option linter.unusedVariables false
def risB (l : List ByteArray) : Bool := (List.range (l.length - 1)).all fun k => decide (cmpN (l.getD k ⟨#[]⟩) (l.getD (k + 1) ⟨#[]⟩) < 0)
theorem risB_iff {l : List ByteArray} : risB l = true ↔ ∀ k, k + 1 < l.length → cmpN (l.getD k ⟨#[]⟩) (l.getD (k + 1) ⟨#[]⟩) < 0 := by
  unfold risB
  rw [List.all_eq_true]
  constructor
  · intro h k hk
    exact of_decide_eq_true (h k (List.mem_range.2 (by omega)))
  · intro h k hk
    have := List.mem_range.1 hk
    exact decide_eq_true (h k (by omega))
theorem risB_ris {l : List ByteArray} : risB l = true ↔ Rising l := risB_iff.trans (rises_iff l)
theorem Rises.to {l : List ByteArray} {f : Nat → ByteArray} (hf : ∀ k, f k = l.getD k ⟨#[]⟩) {W : World} {e : Ending} {w' : World} (h : Rises f l.length W e w') : e = .returned (.bool (risB l)) ∧ Below W.heap.size W w' := by
  obtain ⟨b, rfl, hb, hi⟩ := h
  refine ⟨?_, hb⟩
  have : b = risB l := by
    rw [Bool.eq_iff_iff, hi, risB_iff]
    exact ⟨fun h k hk => by rw [← hf, ← hf]; exact h k hk, fun h k hk => by rw [hf, hf]; exact h k hk⟩
  rw [this]
/-- ContainsFunc over names, at any function value. -/
def anyS (l : List ByteArray) (p : ByteArray → Bool) : Bool := l.any p
set_option maxHeartbeats 4000000 in
theorem indexS (l : List ByteArray) (p : Nat → Bool) (A : Option Addr) (cap b : Nat) (W : World) (hn : l.length ≤ 1048576) (hA : 0 < l.length → A = some ⟨b, 0, none⟩ ∧ b < W.heap.size) (hc : ∀ i (h : i < l.length), W.cell? ⟨b, i, none⟩ = some (.string l[i])) (hcap : l.length ≤ cap) (g : FuncId) (cb : Array Value)
    (hf : ∀ (w : World) (i : Nat) (h : i < l.length), Below W.heap.size W w → Calls Tryz.prog g (#[.string l[i]] ++ cb) w fun e w' => e = .returned (.bool (p i)) ∧ Below w.heap.size w w')
    (eg : ∀ args w, (callFunc g args).run Tryz.prog w = .ok (.enter g args) w) :
    Calls Tryz.prog 120 #[.slice A l.length cap, .func (.func g) #[] cb] W fun e w' => ∃ r : Int, e = .returned (.int .i64 r) ∧ Below W.heap.size W w' ∧ decide (0 ≤ r) = (List.range l.length).any p := by
  obtain ⟨n, hnn⟩ : ∃ n, n = l.length := ⟨_, rfl⟩
  rw [← hnn] at hA hn hcap ⊢
  have HF := Lib.hid hf
  have HA := Lib.hid hA
  have HC := Lib.hid hc
  have HNN := Lib.hid hnn
  clear hf hA hc hnn
  go_enter Tryz.func120, Tryz.ntmps120
  go_upto_block 0 with fail
  go_wp2_with fail
  go_loopw [8] (fun i wr => ∃ a : Nat, i = .int .i64 a ∧ a ≤ n ∧ (∀ k, k < a → p k = false) ∧ Below W.heap.size W wr) (fun i _ => n - (intOf i).toNat)
  case atStart => exact ⟨0, rfl, Nat.zero_le _, fun k h => absurd h (by omega), Below.refl _ _⟩
  case round =>
    obtain ⟨a, rfl, han, hall, hb⟩ := hrel
    have HALL := Lib.hid hall
    have HB := Lib.hid hb
    clear hall hb
    by_cases hlt : a < n
    · have hlt2 : (a : Int) < (n : Int) := by omega
      obtain ⟨rfl, hbk⟩ := HA.out (by omega)
      have hal : a < l.length := by rw [← HNN.out]; exact hlt
      obtain ⟨s, hs⟩ : ∃ s, s = l[a] := ⟨_, rfl⟩
      obtain ⟨t, ht⟩ : ∃ t, t = p a := ⟨_, rfl⟩
      have hcell := (HB.out.cell (p := ⟨b, a, none⟩) hbk).trans (HC.out a hal)
      rw [← hs] at hcell
      have HCA := Lib.hid (show Calls Tryz.prog g (#[.string s] ++ cb) wr fun e w' => e = .returned (.bool t) ∧ Below wr.heap.size wr w' by rw [hs, ht]; exact HF.out wr a hal HB.out)
      have HT := Lib.hid ht
      have hw1 : IntKind.i64.wrap ((a : Int) + 1) = ((a + 1 : Nat) : Int) := IntWalk.i64_in _ (by omega)
      clear hs ht hbk
      go_wp2_with fail
      refine HCA.out.mono ?_
      rintro e w2 ⟨rfl, b2⟩
      have HB2 := Lib.hid (HB.out.trans (b2.mono HB.out.size))
      clear b2
      cases t with
      | true =>
        have HR := Lib.hid (show decide (0 ≤ ((a : Nat) : Int)) = (List.range n).any p by
          rw [decide_eq_true (by omega)]
          exact (List.any_eq_true.2 ⟨a, List.mem_range.2 hlt, HT.out.symm⟩).symm)
        go_wp2_with fail
        go_ret
        exact ⟨_, rfl, HB2.out, HR.out⟩
      | false =>
        have HNX := Lib.hid (show ∀ k, k < a + 1 → p k = false from fun k hk => by
          by_cases h : k = a
          · subst h; exact HT.out.symm
          · exact HALL.out k (by omega))
        go_wp2_with fail
        refine ⟨⟨a + 1, by go_num, by omega, HNX.out, HB2.out⟩, by simp [intOf]; omega⟩
    · have hlt2 : ¬ (a : Int) < (n : Int) := by omega
      have HR := Lib.hid (show decide ((0 : Int) ≤ -1) = (List.range n).any p by
        rw [decide_eq_false (by decide)]
        refine (Bool.eq_false_iff.2 fun h => ?_).symm
        obtain ⟨k, hk, h2⟩ := List.any_eq_true.1 h
        have := HALL.out k (by have := List.mem_range.1 hk; omega)
        rw [this] at h2
        cases h2)
      go_wp2_with fail
      go_ret
      exact ⟨_, rfl, HB.out, HR.out⟩
set_option maxHeartbeats 2000000 in
theorem containsS (l : List ByteArray) (p : Nat → Bool) (P : Nat → Prop) (W : World) (v : Value) (h : StrsAt P W l v) (hn : l.length ≤ 1048576) (g : FuncId) (cb : Array Value)
    (hf : ∀ (w : World) (i : Nat) (h : i < l.length), Below W.heap.size W w → Calls Tryz.prog g (#[.string l[i]] ++ cb) w fun e w' => e = .returned (.bool (p i)) ∧ Below w.heap.size w w')
    (eg : ∀ args w, (callFunc g args).run Tryz.prog w = .ok (.enter g args) w) :
    Calls Tryz.prog 107 #[v, .func (.func g) #[] cb] W fun e w' => e = .returned (.bool ((List.range l.length).any p)) ∧ Below W.heap.size W w' := by
  obtain ⟨A, cap, b, rfl, hcap, hA, hc⟩ := h
  have HI := Lib.hid (indexS l p A cap b W hn (fun h => ⟨(hA h).1, (hA h).2.1⟩) hc hcap g cb hf eg)
  obtain ⟨n, hnn⟩ : ∃ n, n = l.length := ⟨_, rfl⟩
  rw [← hnn] at HI ⊢
  clear hA hc hcap hf hn hnn
  go_enter Tryz.func107, Tryz.ntmps107
  go_wp2_with fail
  refine HI.out.mono ?_
  rintro e w2 ⟨r, rfl, hb, hd⟩
  have HB := Lib.hid hb
  have HD := Lib.hid hd
  clear hb hd
  go_wp2_with fail
  go_ret
  refine ⟨?_, HB.out⟩
  rw [← HD.out]
  rfl
def hasR (r : Rol) (nm : ByteArray) (role : Int) : Bool := hasN r.names nm && decide ((findM r nm).role = role)
set_option maxHeartbeats 2000000 in
theorem hasr_any (r : Rol) (nm : ByteArray) (role : Int) (hs : Rising r.names) (hn : r.ms.length ≤ 4096) (P : Nat → Prop) (W : World) (v : Value) (h : RlAt P W r v) :
    Calls Tryz.prog 105 #[v, .string nm, .int .i64 role] W fun e w' => e = .returned (.bool (hasR r nm role)) ∧ Below W.heap.size W w' := by
  obtain ⟨Am, cm, Ac, cc, rfl, _, _⟩ := h.form
  obtain ⟨n, hnn⟩ : ∃ n, n = r.ms.length := ⟨_, rfl⟩
  obtain ⟨m, hmm⟩ : ∃ m, m = r.cs.length := ⟨_, rfl⟩
  rw [← hnn, ← hmm] at h ⊢
  obtain ⟨V, hV⟩ : ∃ V, V = W.alloc (.cells #[.slice Am n cm, .slice Ac m cc] 27) := ⟨_, rfl⟩
  have hb : Below W.heap.size W V := by rw [hV]; exact (Below.refl _ W).alloc (Nat.le_refl _) _
  have hx : V.heap[W.heap.size]? = some (.cells #[.slice Am n cm, .slice Ac m cc] 27 (0, 0)) := by rw [hV]; exact heap_alloc_new W _
  have x0 := cell_of_row _ _ 0 _ _ (0, 0) hx
  have x1 := cell_of_row _ _ 1 _ _ (0, 0) hx
  have HME := Lib.hid (Member_any r nm P V _ (h.under hb) hs (by omega))
  obtain ⟨fd, hfd⟩ : ∃ fd, fd = hasN r.names nm := ⟨_, rfl⟩
  obtain ⟨x, hxx⟩ : ∃ x, x = findM r nm := ⟨_, rfl⟩
  rw [← hfd, ← hxx] at HME
  have hok : hasR r nm role = (fd && decide (x.role = role)) := by unfold hasR; rw [← hfd, ← hxx]
  rw [hok]
  obtain ⟨x1', x2', x3'⟩ := x
  dsimp only at HME ⊢
  have HV := Lib.hid hV
  have HB := Lib.hid hb
  clear hV hb hx h hnn hmm hfd hxx hok hs hn
  go_enter Tryz.func105, Tryz.ntmps105
  go_upto_region 1 with fail
  rw [← HV.out]
  go_wp2_with fail
  refine HME.out.mono ?_
  rintro e w2 ⟨rfl, hb2⟩
  obtain ⟨V2, hV2⟩ : ∃ V2, V2 = w2.alloc (.cells #[.string x1', .int .i64 x2', .int .i64 x3'] 45) := ⟨_, rfl⟩
  have hbv : Below w2.heap.size w2 V2 := by rw [hV2]; exact (Below.refl _ _).alloc (Nat.le_refl _) _
  have hx2 : V2.heap[w2.heap.size]? = some (.cells #[.string x1', .int .i64 x2', .int .i64 x3'] 45 (0, 0)) := by rw [hV2]; exact heap_alloc_new _ _
  have m1 := cell_of_row _ _ 1 _ _ (0, 0) hx2
  have HB2 := Lib.hid (HB.out.trans ((hb2.trans (hbv.mono hb2.size)).mono HB.out.size))
  have HV2 := Lib.hid hV2
  clear hb2 hV2 hbv hx2 x0 x1
  go_upto_region 2 with fail
  rw [← HV2.out]
  cases fd with
  | true =>
    by_cases hr : x2' = role
    · subst hr
      go_wp2_with fail
      go_ret
      exact ⟨by simp, HB2.out⟩
    · have hr2 : (x2' == role) = false := by simpa using hr
      go_wp2_with fail
      go_ret
      exact ⟨by simp [hr], HB2.out⟩
  | false =>
    go_wp2_with fail
    go_ret
    exact ⟨rfl, HB2.out⟩
end Go.Proofs.YtnmhgjoofgmcgaaGreat.Rl
