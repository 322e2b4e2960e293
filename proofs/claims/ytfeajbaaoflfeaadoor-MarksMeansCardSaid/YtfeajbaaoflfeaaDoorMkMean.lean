/-
  The walks of Mean, the code's and the document's plain one; the sentence that each statement of layer 2 opens with.
-/
import Derived.Test.YtfeajbaaoflfeaaDoorMkArith
import Derived.Test.YtfeajbaaoflfeaaDoorMkFmt
import Derived.BigQuiet
import Derived.Deep.QuietTactic
namespace Go.Proofs.YtfeajbaaoflfeaaDoor.Mk
open Go.RowKit

/-- What a walk knows of a list of marks that it reads: its cells. -/
def Fls (w : World) (a : Option Addr) (len : Nat) (l : List Nat) : Prop :=
  l.length = len ∧ (∀ x ∈ l, x < 18446744073709551616) ∧ (0 < len → ∃ b off, a = some ⟨b, off, none⟩ ∧ b < w.heap.size ∧ ∀ i, i < len → w.cell? ⟨b, off + i, none⟩ = some (.float .f64 (l.getD i 0)))
theorem Fls.below {w w' : World} {a : Option Addr} {len : Nat} {l : List Nat} (h : Fls w a len l) (hb : Below w.heap.size w w') : Fls w' a len l :=
  ⟨h.1, h.2.1, fun hl => by
    obtain ⟨b, off, ha, hlt, hc⟩ := h.2.2 hl
    exact ⟨b, off, ha, Nat.lt_of_lt_of_le hlt hb.size, fun i hi => (hb.cell (p := ⟨b, off + i, none⟩) hlt).trans (hc i hi)⟩⟩
theorem Fls.get_lt {w : World} {a : Option Addr} {len : Nat} {l : List Nat} (h : Fls w a len l) (k : Nat) : l.getD k 0 < 18446744073709551616 := by
  by_cases hk : k < l.length
  · rw [List.getD_eq_getElem?_getD, List.getElem?_eq_getElem hk]; exact h.2.1 _ (List.getElem_mem hk)
  · rw [List.getD_eq_getElem?_getD, List.getElem?_eq_none (by omega)]; simp

/-- The sum of the first k that are numbers, from 0 on; how many they are. -/
def sumO (l : List Nat) : Nat → Option Nat
  | 0 => some 0
  | k + 1 => if isN (l.getD k 0) then sumO l k else bopt .add (sumO l k) (some (l.getD k 0))
def cnt (l : List Nat) : Nat → Nat
  | 0 => 0
  | k + 1 => if isN (l.getD k 0) then cnt l k else cnt l k + 1
theorem cnt_le (l : List Nat) (k : Nat) : cnt l k ≤ k := by
  induction k with
  | zero => exact Nat.le_refl _
  | succ k ih => rw [cnt]; split <;> omega
def mean (l : List Nat) : Nat × Nat := if cnt l l.length = 0 then (NM, 0) else (canonO (bopt .quo (sumO l l.length) (some (fi (cnt l l.length)))), cnt l l.length)
theorem zero_rep : Rep (some 0) 0 := ⟨by omega, rfl⟩

set_option maxRecDepth 100000 in
set_option maxHeartbeats 4000000 in
theorem mean_any (a : Option Addr) (len cap : Nat) (l : List Nat) (hlen : len ≤ 9223372036854775807) (w : World) (hf : Fls w a len l) :
    Calls Tryd.prog 24 #[.slice a len cap] w fun e w' => e = two (mean l) ∧ Drew w w' := by
  have HF := Lib.hid hf
  have HL : Hid (l.length = len) := hf.1
  clear hf
  go_enter Tryd.func24, Tryd.ntmps24
  go_wp2
  go_loopw [4, 5, 7, 10] (fun s c _ i wr => ∃ (k : Nat) (b : Nat), k ≤ len ∧ i = .int .i64 k ∧ s = .float .f64 b ∧ Rep (sumO l k) b ∧ c = .int .i64 (cnt l k : Nat) ∧ Drew w wr) (fun _ _ _ i _ => len - (intOf i).toNat)
  case atStart => exact ⟨0, 0, by omega, rfl, rfl, zero_rep, rfl, Drew.refl _⟩
  case round =>
    obtain ⟨k, b, hk, rfl, rfl, hrep, rfl, hdr⟩ := hrel
    have hcl := cnt_le l k
    by_cases hlt : (k : Int) < len
    · obtain ⟨g, off, rfl, hg, hcell⟩ := HF.out.2.2 (by omega)
      obtain ⟨n, hn⟩ := hdr
      have hck : wr.cell? ⟨g, off + k, none⟩ = some (.float .f64 (l.getD k 0)) := by rw [hn]; exact hcell k (by omega)
      have hxl := HF.out.get_lt k
      have hs1 : sumO l (k + 1) = if isN (l.getD k 0) then sumO l k else bopt .add (sumO l k) (some (l.getD k 0)) := rfl
      have hc1 : cnt l (k + 1) = if isN (l.getD k 0) then cnt l k else cnt l k + 1 := rfl
      obtain ⟨x, hx⟩ : ∃ x, x = l.getD k 0 := ⟨_, rfl⟩
      obtain ⟨c, hc⟩ : ∃ c, c = cnt l k := ⟨_, rfl⟩
      rw [← hx] at hck hxl hs1 hc1
      rw [← hc] at hc1 hcl ⊢
      have HN := Lib.hid hn
      have KN := Lib.hid (isnan_any x wr)
      clear hx hcell hn
      cases hi : isN x with
      | true =>
        rw [hi] at KN hs1 hc1
        rw [if_pos rfl] at hs1 hc1
        rw [← hs1] at hrep
        have HS := Lib.hid hrep
        have HC := Lib.hid hc1
        clear hi hs1 hc1 hrep hc
        go_wp2_with fail
        refine KN.out.mono ?_
        rintro e w1 ⟨rfl, rfl⟩
        go_wp2
        go_roundw
        case rel => exact ⟨k + 1, b, by omega, by go_num, rfl, HS.out, by rw [HC.out], n, HN.out⟩
        case measure => simp [intOf]; omega
      | false =>
        rw [hi] at KN hs1 hc1
        rw [if_neg (by decide)] at hs1 hc1
        obtain ⟨b3, m, hrun, hrep3⟩ := op_run (.inl rfl) 24 hrep (show Rep (some x) x from ⟨hxl, rfl⟩) wr
        rw [← hs1] at hrep3
        have HS := Lib.hid hrep3
        have HC := Lib.hid hc1
        clear hi hs1 hc1 hrep hrep3 hc
        go_wp2_with fail
        refine KN.out.mono ?_
        rintro e w1 ⟨rfl, rfl⟩
        go_wp2
        go_roundw
        case rel => exact ⟨k + 1, b3, by omega, by go_num, rfl, HS.out, by rw [HC.out]; go_num, Drew.trans ⟨n, HN.out⟩ ⟨m, rfl⟩⟩
        case measure => simp [intOf]; omega
    · have : k = len := by omega
      subst this
      have hm : mean l = if cnt l k = 0 then (NM, 0) else (canonO (bopt .quo (sumO l k) (some (fi (cnt l k)))), cnt l k) := by rw [mean, HL.out]
      obtain ⟨c, hc⟩ : ∃ c, c = cnt l k := ⟨_, rfl⟩
      rw [← hc] at hm hcl ⊢
      clear hc
      by_cases h0 : c = 0
      · subst h0
        rw [if_pos rfl] at hm
        have HM := Lib.hid hm
        clear hm
        go_wp2_with fail
        refine (none_any _).mono ?_
        rintro e w1 ⟨rfl, rfl⟩
        go_wp2
        go_ret2
        exact ⟨by rw [HM.out]; rfl, hdr⟩
      · rw [if_neg h0] at hm
        have t1 : ((c : Int) == 0) = false := by rw [beq_eq_false_iff_ne]; omega
        obtain ⟨q, m, hq, hqr⟩ := op_run (.inr (.inr rfl)) 24 hrep (fi_rep c) wr
        have K := Lib.hid (fun W => canon_any q hqr.1 W)
        rw [hqr.canon] at K
        rw [fi] at hq
        generalize canonO (bopt .quo (sumO l k) (some (fi (c : Int)))) = d at *
        have HM := Lib.hid hm
        clear hm hqr hrep h0
        go_wp2_with fail
        refine (K.out _).mono ?_
        rintro e w1 ⟨rfl, rfl⟩
        go_wp2
        go_ret2
        exact ⟨by rw [HM.out]; rfl, Drew.trans hdr ⟨m, rfl⟩⟩

set_option maxRecDepth 100000 in
set_option maxHeartbeats 4000000 in
theorem rmean_any (a : Option Addr) (len cap : Nat) (l : List Nat) (hlen : len ≤ 9223372036854775807) (w : World) (hf : Fls w a len l) :
    Calls Tryd.prog 25 #[.slice a len cap] w fun e w' => e = two (mean l) ∧ Drew w w' := by
  have HF := Lib.hid hf
  have HL : Hid (l.length = len) := hf.1
  clear hf
  go_enter Tryd.func25, Tryd.ntmps25
  go_wp2
  go_loopw [4, 5, 6] (fun s c i wr => ∃ (k : Nat) (b : Nat), k ≤ len ∧ i = .int .i64 k ∧ s = .float .f64 b ∧ Rep (sumO l k) b ∧ c = .int .i64 (cnt l k : Nat) ∧ Drew w wr) (fun _ _ i _ => len - (intOf i).toNat)
  case atStart => exact ⟨0, 0, by omega, rfl, rfl, zero_rep, rfl, Drew.refl _⟩
  case round =>
    obtain ⟨k, b, hk, rfl, rfl, hrep, rfl, hdr⟩ := hrel
    have hcl := cnt_le l k
    by_cases hlt : (k : Int) < len
    · obtain ⟨g, off, rfl, hg, hcell⟩ := HF.out.2.2 (by omega)
      obtain ⟨n, hn⟩ := hdr
      have hck : wr.cell? ⟨g, off + k, none⟩ = some (.float .f64 (l.getD k 0)) := by rw [hn]; exact hcell k (by omega)
      have hxl := HF.out.get_lt k
      have hs1 : sumO l (k + 1) = if isN (l.getD k 0) then sumO l k else bopt .add (sumO l k) (some (l.getD k 0)) := rfl
      have hc1 : cnt l (k + 1) = if isN (l.getD k 0) then cnt l k else cnt l k + 1 := rfl
      obtain ⟨x, hx⟩ : ∃ x, x = l.getD k 0 := ⟨_, rfl⟩
      obtain ⟨c, hc⟩ : ∃ c, c = cnt l k := ⟨_, rfl⟩
      rw [← hx] at hck hxl hs1 hc1
      rw [← hc] at hc1 hcl ⊢
      have HN := Lib.hid hn
      have KN := Lib.hid (rnan_any x hxl wr)
      clear hx hcell hn
      cases hi : isN x with
      | true =>
        rw [hi] at KN hs1 hc1
        rw [if_pos rfl] at hs1 hc1
        rw [← hs1] at hrep
        have HS := Lib.hid hrep
        have HC := Lib.hid hc1
        clear hi hs1 hc1 hrep hc
        go_wp2_with fail
        refine KN.out.mono ?_
        rintro e w1 ⟨rfl, rfl⟩
        go_wp2
        go_roundw
        case rel => exact ⟨k + 1, b, by omega, by go_num, rfl, HS.out, by rw [HC.out], n, HN.out⟩
        case measure => simp [intOf]; omega
      | false =>
        rw [hi] at KN hs1 hc1
        rw [if_neg (by decide)] at hs1 hc1
        obtain ⟨b3, m, hrun, hrep3⟩ := op_run (.inl rfl) 24 hrep (show Rep (some x) x from ⟨hxl, rfl⟩) wr
        rw [← hs1] at hrep3
        have HS := Lib.hid hrep3
        have HC := Lib.hid hc1
        clear hi hs1 hc1 hrep hrep3 hc
        go_wp2_with fail
        refine KN.out.mono ?_
        rintro e w1 ⟨rfl, rfl⟩
        go_wp2
        go_roundw
        case rel => exact ⟨k + 1, b3, by omega, by go_num, rfl, HS.out, by rw [HC.out]; go_num, Drew.trans ⟨n, HN.out⟩ ⟨m, rfl⟩⟩
        case measure => simp [intOf]; omega
    · have : k = len := by omega
      subst this
      have hm : mean l = if cnt l k = 0 then (NM, 0) else (canonO (bopt .quo (sumO l k) (some (fi (cnt l k)))), cnt l k) := by rw [mean, HL.out]
      obtain ⟨c, hc⟩ : ∃ c, c = cnt l k := ⟨_, rfl⟩
      rw [← hc] at hm hcl ⊢
      clear hc
      by_cases h0 : c = 0
      · subst h0
        rw [if_pos rfl] at hm
        have HM := Lib.hid hm
        clear hm
        go_wp2_with fail
        refine (rnone_any _).mono ?_
        rintro e w1 ⟨rfl, rfl⟩
        go_wp2
        go_ret2
        exact ⟨by rw [HM.out]; rfl, hdr⟩
      · rw [if_neg h0] at hm
        have t1 : ((c : Int) == 0) = false := by rw [beq_eq_false_iff_ne]; omega
        obtain ⟨q, m, hq, hqr⟩ := op_run (.inr (.inr rfl)) 24 hrep (fi_rep c) wr
        have K := Lib.hid (fun W => rcanon_any q hqr.1 W)
        rw [hqr.canon] at K
        rw [fi] at hq
        generalize canonO (bopt .quo (sumO l k) (some (fi (c : Int)))) = d at *
        have HM := Lib.hid hm
        clear hm hqr hrep h0
        go_wp2_with fail
        refine (K.out _).mono ?_
        rintro e w1 ⟨rfl, rfl⟩
        go_wp2
        go_ret2
        exact ⟨by rw [HM.out]; rfl, Drew.trans hdr ⟨m, rfl⟩⟩

/-- A third of a hundred, as it is shown. -/
theorem show_at (w : World) (ht : Tab w) (hl : Low w) :
    Calls Tryd.prog 30 #[.float .f64 4629888066921343659] w fun e w' => e = .returned (.string shown) ∧ Below w.heap.size w w' := by
  have K1 := Lib.hid (canon_any 4629888066921343659 (by omega) w)
  have e1 : canon 4629888066921343659 = 4629888066921343659 := by decide +kernel
  rw [e1] at K1
  have K2 := Lib.hid (isnan_any 4629888066921343659 w)
  have e2 : isN 4629888066921343659 = false := by decide +kernel
  rw [e2] at K2
  have t1 : (FloatKind.f64.format.order 4629888066921343659 9218868437227405311 == some .gt) = false := by decide +kernel
  have t2 : (FloatKind.f64.format.order 13853260103776119467 9218868437227405311 == some .gt) = false := by decide +kernel
  have i1 : ∀ W : World, Calls Tryd.prog 40 #[.float .f64 4629888066921343659, .int .i64 1] W fun e w' => e = .returned (.bool false) ∧ W = w' := fun W => by
    go_enter Tryd.func40, Tryd.ntmps40
    go_wp2
    go_ret
    exact ⟨rfl, rfl⟩
  have i2 : ∀ W : World, Calls Tryd.prog 40 #[.float .f64 4629888066921343659, .int .i64 (-1)] W fun e w' => e = .returned (.bool false) ∧ W = w' := fun W => by
    have hneg : ∀ W : World, (Op.unary .neg (.float .f64 4629888066921343659)).run Tryd.prog W = .ok (.float .f64 13853260103776119467) W := fun W => by kernel_rfl
    go_enter Tryd.func40, Tryd.ntmps40
    go_wp2
    go_ret
    exact ⟨rfl, rfl⟩
  have I1 := Lib.hid i1
  have I2 := Lib.hid i2
  clear i1 i2 t1 t2 e1 e2
  have HT := Lib.hid ht
  clear ht
  go_enter Tryd.func30, Tryd.ntmps30
  go_wp2_with fail
  refine K1.out.mono ?_
  rintro e w1 ⟨rfl, rfl⟩
  go_wp2_with fail
  refine K2.out.mono ?_
  rintro e w1 ⟨rfl, rfl⟩
  go_wp2_with fail
  refine (I1.out _).mono ?_
  rintro e w1 ⟨rfl, rfl⟩
  go_wp2_with fail
  refine (I2.out _).mono ?_
  rintro e w1 ⟨rfl, rfl⟩
  go_wp2_with fail
  refine (format_at _ HT.out hl).mono ?_
  rintro e w1 ⟨rfl, b1⟩
  go_wp2
  go_ret
  exact ⟨rfl, b1⟩

end Go.Proofs.YtfeajbaaoflfeaaDoor.Mk
