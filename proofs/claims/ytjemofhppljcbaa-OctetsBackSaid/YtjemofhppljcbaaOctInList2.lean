/-
  The walks of an In's lists of texts.
-/
import Derived.Test.YtjemofhppljcbaaOctInList
namespace Go.Proofs.Ytjemofhppljcbaa.Oct
open Go.RowKit

/-- A text as a cell. -/
def strV (l : List UInt8) : Value := .string ⟨l.toArray⟩

theorem strinfo : (Try.prog.info? 9).map (fun i => (i.zero, i.size, i.bytes)) = some (some (.string ByteArray.empty), 1, 16) := by kernel_rfl

/-- Reading texts one behind the other: the first k of them, and how the reader stands. -/
def rStrs (r : Rest) : Nat → List (List UInt8) × Rest
  | 0 => ([], r)
  | k + 1 => ((rStrs r k).1 ++ [(rText (rStrs r k).2).1], (rText (rStrs r k).2).2)
/-- Texts, if none of them was an error. -/
def allStrs : List (List UInt8) × Rest → List (List UInt8) × Rest
  | (_, .error e) => ([], .error e)
  | (zs, .ok l) => (zs, .ok l)
/-- A list of texts. -/
def rTexts (most : Int) (r : Rest) : List (List UInt8) × Rest := allStrs (rStrs (rLen (min most 65536) r).2 (rLen (min most 65536) r).1.toNat)

theorem rStrs_len (r : Rest) (k : Nat) : (rStrs r k).1.length = k := by
  induction k with
  | zero => rfl
  | succ k ih => simp [rStrs, ih]
theorem rStrs_stuck (r : Rest) (k j : Nat) (e : Nat) (h : (rStrs r k).2 = .error e) : (rStrs r (k + j)).2 = .error e := by
  induction j with
  | zero => exact h
  | succ j ih =>
    show (rText (rStrs r (k + j)).2).2 = _
    rw [ih]; rfl
/-- What a call leaves that tells texts. -/
def GivesStrs (T : TypeId) (w : World) (g : Nat) (q : List (List UInt8) × Rest) (e : Ending) (w' : World) : Prop :=
  ∃ A cap, e = .returned (.slice A q.1.length cap) ∧ w'.ownsRow w.heap.size 9 1 (.slice A q.1.length cap) q.1.length (q.1.map strV) ∧ At T w' g q.2 ∧ Sep g w.heap.size w w'

set_option maxRecDepth 100000 in
set_option maxHeartbeats 2000000 in
theorem list_string_any (g : Nat) (m : Int) (r : Rest) (w : World) (h : At 79 w g r) :
    Calls Try.prog 46 #[.pointer (some ⟨g, 0, none⟩), .int .i64 m, .func (.func 26) #[.pointer (some ⟨g, 0, none⟩)] #[]] w (GivesStrs 79 w g (rTexts m r)) := by
  obtain ⟨i0, hi0, hz0, hz1, hz2⟩ := info_parts strinfo
  have hgw := h.lt
  have HL := Lib.hid (length_in_any g (min m 65536) r w h)
  clear h
  have hq : rTexts m r = allStrs (rStrs (rLen (min m 65536) r).2 (rLen (min m 65536) r).1.toNat) := rfl
  have h0 := rLen_nonneg (min m 65536) r
  have h1 := rLen_le (min m 65536) r
  have h2 := rLen_err (min m 65536) r
  have hmin : min m 65536 ≤ 65536 := Int.min_le_right _ _
  generalize rLen (min m 65536) r = q at *
  obtain ⟨n0, r1⟩ := q
  simp only at hq h0 h1 h2
  obtain ⟨N, rfl⟩ := Int.eq_ofNat_of_zero_le h0
  rw [Int.toNat_natCast] at hq
  have hN : N ≤ 65536 := by omega
  have h2' : ∀ e, r1 = .error e → N = 0 := fun e he => by have := h2 e he; omega
  have HQ := Lib.hid hq
  have H2 := Lib.hid h2'
  clear hq h0 h1 h2 h2' hmin
  rw [HQ.out]
  go_enter Try.func46, Try.ntmps46
  go_wp2_with fail
  refine HL.out.mono ?_
  rintro e w1 ⟨rfl, k1, k2⟩
  have K1 := Lib.hid k1
  have K2 := Lib.hid k2
  clear k1 k2
  go_wp2_with fail
  go_loopw [7, 8, 13] (fun v _ i wr => ∃ (k : Nat) (A : Option Addr) (cap : Nat), k ≤ N ∧ i = .int .i64 k ∧ v = .slice A k cap ∧ (∀ e, (rStrs r1 k).2 = .error e → k = 0) ∧ wr.ownsRow w.heap.size 9 1 (.slice A k cap) k ((rStrs r1 k).1.map strV) ∧ At 79 wr g (rStrs r1 k).2 ∧ Sep g w.heap.size w wr) (fun _ _ i _ => N - (intOf i).toNat)
  case atStart => exact ⟨0, none, 0, by omega, rfl, rfl, fun e he => rfl, World.ownsRow_nil _ _ _ _, K1.out, K2.out⟩
  case round =>
    obtain ⟨k, A, cap, hk, rfl, rfl, hok, hown, hat, hsep⟩ := hrel
    have HO := Lib.hid hown
    have HA := Lib.hid hat
    have HS := Lib.hid hsep
    have HK := Lib.hid hok
    have hwr := hsep.size
    clear hown hat hsep hok
    by_cases hlt : (k : Int) < N
    · have HI := Lib.hid (text_in_any g _ _ HA.out)
      rcases hq : rText (rStrs r1 k).2 with ⟨z, r2⟩
      rw [hq] at HI
      have hs1 : rStrs r1 (k + 1) = ((rStrs r1 k).1 ++ [z], r2) := by rw [rStrs, hq]
      have HS1 := Lib.hid hs1
      clear hq hs1
      go_wp2_with fail
      refine HI.out.mono ?_
      rintro e w2 ⟨rfl, k3, k4⟩
      have HE := Lib.hid (err_any g r2 w2 k3)
      obtain ⟨tt, xx, hcg⟩ := At.cells HA.out
      have HO2 := Lib.hid (k4.own HO.out hcg (by decide))
      have HS2 := Lib.hid (HS.out.trans ⟨k4.os, k4.tape, k4.output, k4.size, fun i hi hg => k4.block i (Nat.lt_of_lt_of_le hi hwr) hg⟩)
      have hw2 := Nat.le_trans hwr k4.size
      have HA2 := Lib.hid k3
      clear k3 k4 hcg
      cases r2 with
      | error x =>
        have hx : ((x : Int) == 0) = false := by rw [beq_eq_false_iff_ne]; have := HA2.out.1; omega
        have HE' : Hid (Calls Try.prog 20 #[.pointer (some ⟨g, 0, none⟩)] w2 fun e w' => e = .returned (.int .i64 (x : Int)) ∧ w2 = w') := HE
        go_wp2_with fail
        refine HE'.out.mono ?_
        rintro e w' ⟨rfl, rfl⟩
        go_wp2
        go_ret
        have hst := rStrs_stuck r1 (k + 1) (N - (k + 1)) x (by rw [HS1.out])
        rw [show k + 1 + (N - (k + 1)) = N from by omega] at hst
        have hfin : allStrs (rStrs r1 N) = ([], .error x) := by
          rcases h9 : rStrs r1 N with ⟨a9, b9⟩
          rw [h9] at hst
          simp only at hst
          rw [hst]; rfl
        rw [hfin]
        exact ⟨none, 0, rfl, World.ownsRow_nil _ _ _ _, HA2.out, HS2.out⟩
      | ok l2 =>
        have HE' : Hid (Calls Try.prog 20 #[.pointer (some ⟨g, 0, none⟩)] w2 fun e w' => e = .returned (.int .i64 0) ∧ w2 = w') := HE
        go_wp2_with fail
        refine HE'.out.mono ?_
        rintro e w' ⟨rfl, rfl⟩
        go_wp2_with ((at_builtin; refine wpList_append_own _ rfl _ _ 37 rfl w.heap.size 9 i0 (.string ByteArray.empty) 1 16 Try.underlying37 hi0 hz0 hz1 hz2 rfl (by decide) _ _ _ rfl (HO2.out.alloc _) ⟨w2.heap.size, 0, none⟩ 1 1 [strV z] rfl rfl ?c1 ?c2 ?c3 ?c4 ?c5 ?_))
        case c1 => exact cell_one_new _ _ _
        case c2 => simp [Value.oneCell', strV]
        case c3 => unfold maxLen; omega
        case c4 => omega
        case c5 => simp; omega
        intro v' w4 hown4 hgrow4 _
        have HO4 := Lib.hid hown4
        have HG4 := Lib.hid hgrow4
        clear hown4 hgrow4
        go_wp2
        obtain ⟨A', cap', hv⟩ := slice_of HO4.out
        have hfin : (∃ (k' : Nat) (A : Option Addr) (cap : Nat), k' ≤ N ∧ Value.int .i64 ((k : Int) + 1) = .int .i64 k' ∧ v' = .slice A k' cap ∧ (∀ e, (rStrs r1 k').2 = .error e → k' = 0) ∧ w4.ownsRow w.heap.size 9 1 (.slice A k' cap) k' ((rStrs r1 k').1.map strV) ∧ At 79 w4 g (rStrs r1 k').2 ∧ Sep g w.heap.size w w4) := by
          refine ⟨k + 1, A', cap', by omega, by go_num, hv, ?_, ?_, ?_, ?_⟩
          · intro e he; rw [HS1.out] at he; cases he
          · rw [HS1.out, List.map_append, ← hv]; exact HO4.out
          · rw [HS1.out]
            exact (HA2.out.below ((Below.refl _ _).alloc (Nat.le_refl _) _)).grown HG4.out (HO2.out.alloc _) (by decide)
          · exact (HS2.out.alloc hw2 _).grown HG4.out (by simp; omega) (fun r hr => by
              rcases HO2.out.2 with ⟨h1, _⟩ | ⟨r', cp, cur, h1, h2, _⟩
              · rw [h1] at hr; simp [Value.ownBlock] at hr
              · rw [h1] at hr; simp [Value.ownBlock] at hr; omega)
        exact ⟨hfin, by simp [intOf]; omega⟩
    · have hkN : k = N := by omega
      subst hkN
      go_wp2
      go_ret
      rcases h9 : rStrs r1 k with ⟨a9, b9⟩
      have hlen := rStrs_len r1 k
      rw [h9] at hlen
      simp only at hlen
      have HO9 := HO.out
      have HA9 := HA.out
      have HK9 := HK.out
      rw [h9] at HO9 HA9 HK9
      cases b9 with
      | error x =>
        have hk0 := HK9 x rfl
        subst hk0
        have ha : a9 = [] := List.eq_nil_of_length_eq_zero hlen
        subst ha
        exact ⟨A, cap, rfl, HO9, HA9, HS.out⟩
      | ok l =>
        refine ⟨A, cap, ?_, ?_, HA9, HS.out⟩
        · show _ = Ending.returned (.slice A a9.length cap)
          rw [hlen]; rfl
        · show World.ownsRow _ _ _ _ (.slice A a9.length cap) a9.length _
          rw [hlen]; exact HO9

set_option maxHeartbeats 400000 in
theorem texts_in_any (g : Nat) (m : Int) (r : Rest) (w : World) (h : At 79 w g r) :
    Calls Try.prog 31 #[.pointer (some ⟨g, 0, none⟩), .int .i64 m] w (GivesStrs 79 w g (rTexts m r)) := by
  have H := Lib.hid (list_string_any g m r w h)
  clear h
  go_enter Try.func31, Try.ntmps31
  go_wp2_with fail
  refine H.out.mono ?_
  rintro e w1 ⟨A, cap, rfl, k1, k2, k3⟩
  go_wp2
  go_ret
  exact ⟨A, cap, rfl, k1, k2, k3⟩

end Go.Proofs.Ytjemofhppljcbaa.Oct
