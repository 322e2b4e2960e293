/-
  The walks of Weigh, the code's and the document's plain one.
-/
import Derived.Test.YtfeajbaaoflfeaaDoorMkWeigh
namespace Go.Proofs.YtfeajbaaoflfeaaDoor.Mk
open Go.RowKit

theorem contains_any (a : Option Addr) (len cap : Nat) (l : List Nat) (hlen : len ≤ 9223372036854775807) (w : World) (hf : Fls w a len l) :
    Calls Tryd.prog 41 #[.slice a len cap, .func (.func 39) #[] #[]] w fun e w' => e = .returned (.bool (!fine l len)) ∧ w = w' := by
  have K := Lib.hid (index_any a len cap l hlen w hf)
  clear hf
  cases hfi : fine l len with
  | true =>
    go_enter Tryd.func41, Tryd.ntmps41
    go_wp2_with fail
    refine K.out.mono ?_
    rintro e w1 ⟨r, rfl, hr, rfl⟩
    have hr0 : decide (0 ≤ r) = false := by
      simp only [decide_eq_false_iff_not]
      exact fun h => by have := hr.1 h; rw [hfi] at this; cases this
    have HR := Lib.hid hr0
    clear hr hfi K hr0
    go_wp2
    go_ret
    refine ⟨?_, rfl⟩
    show Ending.returned (.bool (decide (0 ≤ r))) = _
    rw [HR.out]; rfl
  | false =>
    go_enter Tryd.func41, Tryd.ntmps41
    go_wp2_with fail
    refine K.out.mono ?_
    rintro e w1 ⟨r, rfl, hr, rfl⟩
    have hr0 : decide (0 ≤ r) = true := by
      simp only [decide_eq_true_eq]
      exact hr.2 hfi
    have HR := Lib.hid hr0
    clear hr hfi K hr0
    go_wp2
    go_ret
    refine ⟨?_, rfl⟩
    show Ending.returned (.bool (decide (0 ≤ r))) = _
    rw [HR.out]; rfl

/-- The two sums of the first k. -/
def wS (v u : List Nat) : Nat → Option Nat
  | 0 => some 0
  | k + 1 => if isN (v.getD k 0) then wS v u k else bopt .add (wS v u k) (bopt .mul (some (v.getD k 0)) (some (u.getD k 0)))
def wA (v u : List Nat) : Nat → Option Nat
  | 0 => some 0
  | k + 1 => if isN (v.getD k 0) then wA v u k else bopt .add (wA v u k) (some (u.getD k 0))
def zO : Option Nat → Bool
  | some r => decide (r = 0 ∨ r = 9223372036854775808)
  | none => false
theorem Rep.zero {o : Option Nat} {b : Nat} (h : Rep o b) : (ord b 0 == some .eq) = zO o := by
  cases o with
  | some r => rw [h.2]; exact eq_zero r (by have := h.1; rw [h.2] at this; exact this)
  | none => rw [ord_nan_l b 0 h.2]; rfl
def weigh (v u : List Nat) : Nat × Nat := if v.length ≠ u.length then (0, 1) else if fine u u.length = false then (0, 18) else if zO (wA v u v.length) = true then (NM, 0) else (canonO (bopt .quo (wS v u v.length) (wA v u v.length)), 0)

theorem weigh_len (a b : Option Addr) (n m c d : Nat) (hne : n ≠ m) (w : World) :
    Calls Tryd.prog 26 #[.slice a n c, .slice b m d] w fun e w' => e = two (0, 1) ∧ w = w' := by
  have t1 : ((n : Int) != (m : Int)) = true := by rw [bne_iff_ne]; omega
  have t2 : ((n : Int) == (m : Int)) = false := by rw [beq_eq_false_iff_ne]; omega
  clear hne
  go_enter Tryd.func26, Tryd.ntmps26
  go_wp2
  go_ret2
  exact ⟨rfl, rfl⟩

theorem weigh_bad (a b : Option Addr) (n c d : Nat) (u : List Nat) (hn : n ≤ 9223372036854775807) (w : World) (hu : Fls w b n u) (hb : fine u n = false) :
    Calls Tryd.prog 26 #[.slice a n c, .slice b n d] w fun e w' => e = two (0, 18) ∧ w = w' := by
  have K := Lib.hid (contains_any b n d u hn w hu)
  rw [hb] at K
  clear hb hu
  go_enter Tryd.func26, Tryd.ntmps26
  go_wp2_with fail
  refine K.out.mono ?_
  rintro e w1 ⟨rfl, rfl⟩
  go_wp2
  go_ret2
  exact ⟨rfl, rfl⟩

set_option maxRecDepth 100000 in
set_option maxHeartbeats 4000000 in
theorem weigh_good (a b : Option Addr) (len c d : Nat) (v u : List Nat) (hlen : len ≤ 9223372036854775807) (w : World) (hv : Fls w a len v) (hu : Fls w b len u) (hb : fine u len = true) :
    Calls Tryd.prog 26 #[.slice a len c, .slice b len d] w fun e w' => e = two (if zO (wA v u len) = true then (NM, 0) else (canonO (bopt .quo (wS v u len) (wA v u len)), 0)) ∧ Drew w w' := by
  obtain ⟨res, hres⟩ : ∃ res, res = (if zO (wA v u len) = true then (NM, 0) else (canonO (bopt .quo (wS v u len) (wA v u len)), 0)) := ⟨_, rfl⟩
  rw [← hres]
  have HRES := Lib.hid hres
  have HV := Lib.hid hv
  have HU := Lib.hid hu
  have K := Lib.hid (contains_any b len d u hlen w hu)
  rw [hb] at K
  clear hv hu hb hres
  go_enter Tryd.func26, Tryd.ntmps26
  go_wp2_with fail
  refine K.out.mono ?_
  rintro e w1 ⟨rfl, rfl⟩
  go_wp2
  go_loopw [7, 8, 9, 10, 21] (fun s t _ _ i wr => ∃ (k s0 t0 : Nat), k ≤ len ∧ i = .int .i64 k ∧ s = .float .f64 s0 ∧ t = .float .f64 t0 ∧ Rep (wS v u k) s0 ∧ Rep (wA v u k) t0 ∧ Drew w wr) (fun _ _ _ _ i _ => len - (intOf i).toNat)
  case atStart => exact ⟨0, 0, 0, by omega, rfl, rfl, rfl, zero_rep, zero_rep, Drew.refl _⟩
  case round =>
    obtain ⟨k, s0, t0, hk, rfl, rfl, rfl, hs, ht, hdr⟩ := hrel
    by_cases hlt : (k : Int) < len
    · obtain ⟨g, off, rfl, hg, hcell⟩ := HV.out.2.2 (by omega)
      obtain ⟨g2, off2, rfl, hg2, hcell2⟩ := HU.out.2.2 (by omega)
      obtain ⟨n, hn⟩ := hdr
      have hck : wr.cell? ⟨g, off + k, none⟩ = some (.float .f64 (v.getD k 0)) := by rw [hn]; exact hcell k (by omega)
      have hck2 : wr.cell? ⟨g2, off2 + k, none⟩ = some (.float .f64 (u.getD k 0)) := by rw [hn]; exact hcell2 k (by omega)
      have hxl := HV.out.get_lt k
      have hyl := HU.out.get_lt k
      have hs1 : wS v u (k + 1) = if isN (v.getD k 0) then wS v u k else bopt .add (wS v u k) (bopt .mul (some (v.getD k 0)) (some (u.getD k 0))) := rfl
      have ha1 : wA v u (k + 1) = if isN (v.getD k 0) then wA v u k else bopt .add (wA v u k) (some (u.getD k 0)) := rfl
      generalize v.getD k 0 = x at *
      generalize u.getD k 0 = y at *
      have HN := Lib.hid hn
      have KN := Lib.hid (isnan_any x wr)
      clear hcell hcell2 hn
      cases hi : isN x with
      | true =>
        rw [hi] at KN hs1 ha1
        rw [if_pos rfl] at hs1 ha1
        rw [← hs1] at hs
        rw [← ha1] at ht
        have HS := Lib.hid hs
        have HA := Lib.hid ht
        clear hi hs1 ha1 hs ht
        go_wp2_with fail
        refine KN.out.mono ?_
        rintro e w1 ⟨rfl, rfl⟩
        go_wp2
        go_roundw
        case rel => exact ⟨k + 1, s0, t0, by omega, by go_num, rfl, rfl, HS.out, HA.out, n, HN.out⟩
        case measure => simp [intOf]; omega
      | false =>
        rw [hi] at KN hs1 ha1
        rw [if_neg (by decide)] at hs1 ha1
        obtain ⟨p3, n1, hp1, hp⟩ := op_run (.inr (.inl rfl)) 24 (show Rep (some x) x from ⟨hxl, rfl⟩) (show Rep (some y) y from ⟨hyl, rfl⟩) wr
        obtain ⟨s3, n2, hs2, hs3⟩ := op_run (.inl rfl) 24 hs hp (wr.drewN n1)
        obtain ⟨t3, n3, ht2, ht3⟩ := op_run (.inl rfl) 24 ht (show Rep (some y) y from ⟨hyl, rfl⟩) (wr.drewN (n1 + n2))
        rw [← hs1] at hs3
        rw [← ha1] at ht3
        have HS := Lib.hid hs3
        have HA := Lib.hid ht3
        clear hi hs1 ha1 hs ht hp hs3 ht3
        go_wp2_with fail
        refine KN.out.mono ?_
        rintro e w1 ⟨rfl, rfl⟩
        go_wp2
        go_roundw
        case rel => exact ⟨k + 1, s3, t3, by omega, by go_num, rfl, rfl, HS.out, HA.out, Drew.trans ⟨n, HN.out⟩ ⟨_, rfl⟩⟩
        case measure => simp [intOf]; omega
    · have : k = len := by omega
      subst this
      have hz := ht.zero
      unfold ord at hz
      cases hzo : zO (wA v u k) with
      | true =>
        rw [hzo] at hz
        have hr : res = (NM, 0) := by rw [HRES.out, if_pos hzo]
        have HR := Lib.hid hr
        clear hr hzo hs ht
        go_wp2_with fail
        refine (none_any _).mono ?_
        rintro e w1 ⟨rfl, rfl⟩
        go_wp2
        go_ret2
        exact ⟨by rw [HR.out]; rfl, hdr⟩
      | false =>
        rw [hzo] at hz
        have hr : res = (canonO (bopt .quo (wS v u k) (wA v u k)), 0) := by rw [HRES.out, if_neg (by rw [hzo]; decide)]
        obtain ⟨q, m, hq, hqr⟩ := op_run (.inr (.inr rfl)) 24 hs ht wr
        have KC := Lib.hid (fun W => canon_any q hqr.1 W)
        rw [hqr.canon, show canonO (bopt .quo (wS v u k) (wA v u k)) = res.1 from by rw [hr]] at KC
        have HR := Lib.hid hr
        clear hr hzo hs ht hqr
        go_wp2_with fail
        refine (KC.out _).mono ?_
        rintro e w1 ⟨rfl, rfl⟩
        go_wp2
        go_ret2
        have h2 : res.2 = 0 := by rw [HR.out]
        refine ⟨?_, Drew.trans hdr ⟨m, rfl⟩⟩
        rw [two, h2]; rfl

end Go.Proofs.YtfeajbaaoflfeaaDoor.Mk
